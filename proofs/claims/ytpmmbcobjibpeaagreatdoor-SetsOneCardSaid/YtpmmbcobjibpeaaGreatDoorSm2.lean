
import Derived.Test.YtpmmbcobjibpeaaGreatDoorSth
import Derived.Test.YtpmmbcobjibpeaaGreatDoorLayb
import Derived.Deep.Heap
namespace Go.Proofs.YtpmmbcobjibpeaaGreatDoor
set_option linter.unusedSimpArgs false
set_option linter.unusedVariables false
open Go.RowKit Go.Lib

/-! Spans: slices.Concat of two. -/
theorem growS_any (n : Nat) (w : World) (hn : n ≤ 1000000) :
    Calls Tryz.prog 101 #[.slice none 0 0, .int .i64 n] w fun e w' => ∃ v, e = .returned v ∧ OwnS w' w.heap.size v [] ∧ Bel w w' := by
  rcases Nat.eq_zero_or_pos n with h0 | h0
  · subst h0
    have h := Any8.slices_Grow_room Tryz.growS none 0 0 0 w (Nat.le_refl _) (by omega) (by omega) (Nat.le_refl _)
    change Calls Tryz.prog 101 _ _ _ at h
    exact h.mono fun e w' ⟨he, hw⟩ => ⟨_, he, OwnS.nil _ _, by rw [hw]; exact Bel.refl _⟩
  · obtain ⟨i0, hi, hz0, hz1, hz2⟩ := infoS'
    have h := Any8.slices_Grow_grow Tryz.growS i0 _ hi hz0 (by omega) none 0 0 n [] w (Nat.le_refl _) (by omega) (by rw [hz2]; omega) (by omega) (by simp) (fun _ => rfl) (by simp)
    change Calls Tryz.prog 101 _ _ _ at h
    refine h.mono fun e w' ⟨he, hw⟩ => ⟨_, he, ?_, by rw [hw]; exact (Bel.refl w).drew.alloc _⟩
    subst hw
    refine ⟨rfl, .inr ⟨w.heap.size, _, _, rfl, Nat.le_refl _, heap_alloc_new (w.drew) _, Nat.zero_le _, grownCap_le_maxLen _ _ _ _ (by unfold maxLen; omega), ?_, rfl⟩⟩
    have hge := grownCap_ge w (0 + n) 0 61
    simp only [Array.size_append, zc_size, Value.cells, List.size_toArray, List.length_nil, Nat.sub_zero]
    show 0 + (0 + n) * 2 + (grownCap w (0 + n) 0 61 - (0 + n)) * 2 = grownCap w (0 + n) 0 61 * 2
    omega
set_option maxRecDepth 100000 in
set_option maxHeartbeats 8000000 in
theorem concatS_any (l m : List Sp) (A A2 : Option Addr) (c c2 B cc : Nat) (w : World) (hB : B < w.heap.size) (q0 : w.cell? ⟨B, 0, none⟩ = some (.slice A l.length c)) (q1 : w.cell? ⟨B, 1, none⟩ = some (.slice A2 m.length c2))
    (hl : Sps w A l) (hm : Sps w A2 m) (hA : A = none → c = 0) (hA2 : A2 = none → c2 = 0) (hn : l.length + m.length ≤ 1000000) :
    Calls Tryz.prog 68 #[.slice (some ⟨B, 0, none⟩) 2 cc] w fun e w' => ∃ v, e = .returned v ∧ OwnS w' w.heap.size v (l ++ m) ∧ Bel w w' := by
  have hli : (l.length : Int) ≤ 1000000 := by omega
  have hmi : (m.length : Int) ≤ 1000000 := by omega
  have G := Lib.hid fun w => growS_any (l.length + m.length) w (by omega)
  have HL := Lib.hid (And.intro hl hm)
  have HH := Lib.hid (And.intro hA hA2)
  have HN := Lib.hid hn
  clear hl hm hA hA2 hn
  go_enter Tryz.func68, Tryz.ntmps68
  go_wp2
  go_loopg [3, 11] 2 (fun g v i wr => ∃ k n : Nat, i = .int .i64 k ∧ v = .int .i64 n ∧ Hid (k ≤ 2 ∧ g = 2 - k ∧ (k = 0 ∧ n = 0 ∨ k = 1 ∧ n = l.length ∨ k = 2 ∧ n = l.length + m.length)) ∧ Bel w wr)
  case atStart => exact ⟨0, 0, rfl, rfl, ⟨by omega, rfl, by omega⟩, Bel.refl _⟩
  case round =>
    obtain ⟨k, n, rfl, rfl, hh, hb0⟩ := hrel
    have hg := hh.out.2.1
    have p0 := (hb0.cells _ 0 hB).trans q0
    have p1 := (hb0.cells _ 1 hB).trans q1
    clear q0 q1
    rcases hh.out.2.2 with ⟨rfl, rfl⟩ | ⟨rfl, rfl⟩ | ⟨rfl, rfl⟩
    · go_wp2
      go_roundg 1
      case measure => omega
      case rel => exact ⟨1, l.length, by go_num, by go_num, ⟨by omega, rfl, by omega⟩, hb0⟩
    · go_wp2
      go_roundg 0
      case measure => omega
      case rel => exact ⟨2, l.length + m.length, by go_num, by go_num, ⟨by omega, rfl, by omega⟩, hb0⟩
    · have hB1 := Nat.lt_of_lt_of_le hB hb0.size
      go_wp2_with (go_at_call 101; refine (G.out _).mono ?_; rintro e W1 ⟨v, rfl, ho, hb⟩)
      have HO := Lib.hid (And.intro ho hb)
      clear ho hb hg
      go_loopg [6, 27] 2 (fun g v i w2 => ∃ (k : Nat) (r : List Sp), i = .int .i64 k ∧ Hid (OwnS w2 wr.heap.size v r) ∧ Hid (k ≤ 2 ∧ g = 2 - k ∧ (k = 0 ∧ r = [] ∨ k = 1 ∧ r = l ∨ k = 2 ∧ r = l ++ m)) ∧ Bel wr w2)
      case atStart => exact ⟨0, [], rfl, HO.out.1, ⟨by omega, rfl, .inl ⟨rfl, rfl⟩⟩, HO.out.2⟩
      case round =>
        obtain ⟨k, r, rfl, o1, hh2, hbb⟩ := hrel
        have hg := hh2.out.2.1
        have q0 := (hbb.cells _ 0 hB1).trans p0
        have q1 := (hbb.cells _ 1 hB1).trans p1
        have OO := o1
        clear HO o1
        rcases hh2.out.2.2 with ⟨rfl, hr⟩ | ⟨rfl, hr⟩ | ⟨rfl, hr⟩
        · rw [hr] at OO
          clear hr
          go_wp2_with (first
            | (at_builtin
               refine wpList_app (by rfl) (.tmp 31) (.tmp 32) _ rfl (app_at (ys := l) hbb OO.out (HL.out.1.keep (hb0.trans hbb)) rfl HH.out.1 (by have := HN.out; simp; omega) _) ?_
               rintro v7 w7 ⟨o7, b7, _, _⟩))
          go_roundg 1
          case measure => omega
          case rel => exact ⟨1, l, by go_num, (by show OwnS _ _ _ _; simpa using o7), ⟨by omega, rfl, .inr (.inl ⟨rfl, rfl⟩)⟩, b7⟩
        · rw [hr] at OO
          clear hr
          go_wp2_with (first
            | (at_builtin
               refine wpList_app (by rfl) (.tmp 31) (.tmp 32) _ rfl (app_at (ys := m) hbb OO.out (HL.out.2.keep (hb0.trans hbb)) rfl HH.out.2 (by have := HN.out; omega) _) ?_
               rintro v7 w7 ⟨o7, b7, _, _⟩))
          go_roundg 0
          case measure => omega
          case rel => exact ⟨2, l ++ m, by go_num, o7, ⟨by omega, rfl, .inr (.inr ⟨rfl, rfl⟩)⟩, b7⟩
        · rw [hr] at OO
          clear hr
          go_wp2
          go_ret
          exact ⟨_, rfl, OO.out.base hb0.size, hb0.trans hbb⟩
end Go.Proofs.YtpmmbcobjibpeaaGreatDoor
namespace Go.Proofs.YtpmmbcobjibpeaaGreatDoor
set_option linter.unusedSimpArgs false
set_option linter.unusedVariables false
open Go.RowKit Go.Lib

/-! The units of sound tests are numbers of 64 bits. -/
theorem P10_le6 {k : Nat} (h : k ≤ 6) : P10 k ≤ 1000000 := by
  have : P10 k ≤ P10 6 := Nat.pow_le_pow_right (by omega) h
  exact this
theorem ediv_bd {n : Int} {p : Nat} (hp : 0 < p) {b : Int} (hb : 0 ≤ b) (h1 : -b ≤ n) (h2 : n ≤ b) : -b ≤ n / (p : Int) ∧ n / (p : Int) ≤ b := by
  have hp' : (0 : Int) < p := by omega
  constructor
  · rw [Int.le_ediv_iff_mul_le hp']
    have h3 : b * 1 ≤ b * (p : Int) := Int.mul_le_mul_of_nonneg_left (by omega) hb
    have h4 : -b * (p : Int) = -(b * (p : Int)) := Int.neg_mul ..
    rw [h4]
    omega
  · have h3 : n / (p : Int) ≤ b / (p : Int) := Int.ediv_le_ediv hp' h2
    have h4 : b / (p : Int) ≤ b := Int.ediv_le_self _ hb
    omega
theorem unP_rng {v : Val} {sc : Int} (h : vsnd v = true) : -1000000000000000000 ≤ (unP sc v).1 ∧ (unP sc v).1 ≤ 1000000000000000000 := by
  unfold unP
  by_cases h1 : v.kind = 1
  · rw [if_pos h1]
    have hd := vsnd_dec h h1
    unfold atP
    by_cases ht : 0 ≤ sc ∧ sc ≤ 6
    · rw [if_pos ht, if_pos hd]
      by_cases hs : v.scale ≤ sc
      · rw [if_pos hs]
        exact mul_bd6 hd.2.2.1 (P10_le6 (by have := hd.1; omega))
      · rw [if_neg hs]
        have hb := hd.2.2.1
        unfold small at hb
        have := ediv_bd (n := v.n) (p := P10 (v.scale - sc).toNat) (P10_pos _) (b := 1000000000000000000) (by omega) (by omega) (by omega)
        exact this
    · rw [if_neg ht]
      exact ⟨by simp, by simp⟩
  · rw [if_neg h1]
    unfold vsnd at h
    rw [if_neg h1] at h
    split at h
    · have := (veq_iff _ _).1 h
      have e : v.num = 0 := by rw [this]
      simp only
      omega
    · split at h
      · rw [Bool.and_eq_true] at h
        have := (veq_iff _ _).1 h.1
        have e : v.num = 0 := by rw [this]
        simp only
        omega
      · split at h
        · simp only [Bool.and_eq_true, Bool.or_eq_true, decide_eq_true_eq] at h
          simp only
          omega
        · split at h
          · simp only [Bool.and_eq_true, Bool.or_eq_true, decide_eq_true_eq] at h
            simp only
            omega
          · cases h
theorem wrap_small {n : Int} (h1 : -9223372036854775808 ≤ n) (h2 : n ≤ 9223372036854775807) : wrap64 n = n := by
  unfold wrap64
  omega
theorem fstU_eq {n : Int} (ex op : Bool) (h1 : -1000000000000000000 ≤ n) (h2 : n ≤ 1000000000000000000) : fstU n ex op = if ex && !op then n else n + 1 := by
  unfold fstU
  rw [wrap_small (by omega) (by omega)]
theorem lstU_eq {n : Int} (ex op : Bool) (h1 : -1000000000000000000 ≤ n) (h2 : n ≤ 1000000000000000000) : lstU n ex op = if ex && op then n - 1 else n := by
  unfold lstU
  rw [wrap_small (by omega) (by omega)]
theorem fstU_bd {n : Int} (ex op : Bool) (h1 : -1000000000000000000 ≤ n) (h2 : n ≤ 1000000000000000000) : -1000000000000000000 ≤ fstU n ex op ∧ fstU n ex op ≤ 1000000000000000001 := by
  rw [fstU_eq ex op h1 h2]
  split <;> omega
theorem lstU_bd {n : Int} (ex op : Bool) (h1 : -1000000000000000000 ≤ n) (h2 : n ≤ 1000000000000000000) : -1000000000000000001 ≤ lstU n ex op ∧ lstU n ex op ≤ 1000000000000000000 := by
  rw [lstU_eq ex op h1 h2]
  split <;> omega
theorem rng_ite {c : Prop} [Decidable c] {a b : Sp} (h1 : Rng a) (h2 : Rng b) : Rng (if c then a else b) := by
  split
  · exact h1
  · exact h2
theorem spU_rng {t : Tst} {sc : Int} (h : tsnd t = true) : Rng (spU sc t) := by
  have hl := unP_rng (sc := sc) (tsnd_low h)
  have hh := unP_rng (sc := sc) (tsnd_high h)
  unfold spU
  have f := fun ex op => fstU_bd (n := (unP sc t.low).1) ex op hl.1 hl.2
  have g := fun ex op => lstU_bd (n := (unP sc t.low).1) ex op hl.1 hl.2
  have g2 := fun ex op => lstU_bd (n := (unP sc t.high).1) ex op hh.1 hh.2
  have e := wrap_small (n := (unP sc t.low).1 + 1) (by omega) (by omega)
  rw [e]
  have f1 := f (unP sc t.low).2 false
  have f2 := f (unP sc t.low).2 t.ol
  have g1 := g (unP sc t.low).2 true
  have g3 := g2 (unP sc t.high).2 t.oh
  refine rng_ite ?_ (rng_ite ?_ (rng_ite ?_ (rng_ite ?_ (rng_ite ?_ ?_))))
  all_goals
    unfold Rng
    refine ⟨?_, ?_, ?_, ?_⟩ <;> (dsimp only; omega)
end Go.Proofs.YtpmmbcobjibpeaaGreatDoor
namespace Go.Proofs.YtpmmbcobjibpeaaGreatDoor
set_option linter.unusedSimpArgs false
set_option linter.unusedVariables false
open Go.RowKit Go.Lib Go.Deep

/-! Sets: some, of numbers or days. -/
theorem own_set {w : World} {B : Nat} {v : Value} {l : List Sp} {p : Addr} (h : OwnS w B v l) (hp : p.block < B) (x : Value) : OwnS (w.setCell p x) B v l := by
  obtain ⟨hl, h2⟩ := h
  refine ⟨hl, ?_⟩
  rcases h2 with h2 | ⟨g, cap, cur, e1, e2, e3, h4⟩
  · exact .inl h2
  · exact .inr ⟨g, cap, cur, e1, e2, by rw [blk_setCell_other _ _ _ _ (by omega)]; exact e3, h4⟩
def nulk (l : List Tst) : Bool := l.any fun t => decide (t.low.kind = 0)
def rngk (K sc : Int) (l : List Tst) : List Sp := (l.filter fun t => decide (t.low.kind = K)).map (spU sc)
theorem nulk_snoc (l : List Tst) (t : Tst) : nulk (l ++ [t]) = (nulk l || decide (t.low.kind = 0)) := by simp [nulk]
theorem rngk_snoc (K sc : Int) (l : List Tst) (t : Tst) : rngk K sc (l ++ [t]) = if t.low.kind = K then rngk K sc l ++ [spU sc t] else rngk K sc l := by
  unfold rngk
  rw [List.filter_append, List.map_append]
  by_cases h : t.low.kind = K
  · rw [if_pos h]; simp [h]
  · rw [if_neg h]; simp [h]
theorem rngk_len (K sc : Int) (l : List Tst) : (rngk K sc l).length ≤ l.length := by
  unfold rngk
  rw [List.length_map]
  exact List.length_filter_le _ _
theorem rngk_rng (K sc : Int) (l : List Tst) (h : ∀ t ∈ l, tsnd t = true) : ∀ s ∈ rngk K sc l, Rng s := by
  intro s hs
  unfold rngk at hs
  rw [List.mem_map] at hs
  obtain ⟨t, ht, rfl⟩ := hs
  exact spU_rng (h t (List.mem_filter.1 ht).1)
/-- Behind a round: all but two cells of a block is as it was. -/
def But (W X : World) (B : Nat) : Prop := W.heap.size ≤ X.heap.size ∧ (∀ b o, b < W.heap.size → (b ≠ B ∨ o < 4) → X.cell? ⟨b, o, none⟩ = W.cell? ⟨b, o, none⟩) ∧ (∀ b o, b < W.heap.size → X.frozen? ⟨b, o, none⟩ = W.frozen? ⟨b, o, none⟩)
theorem But.refl (W : World) (B : Nat) : But W W B := ⟨Nat.le_refl _, fun _ _ _ _ => rfl, fun _ _ _ => rfl⟩
theorem But.bel {W X Y : World} {B : Nat} (h : But W X B) (hb : Bel X Y) : But W Y B :=
  ⟨Nat.le_trans h.1 hb.size, fun b o h1 h2 => (hb.cells _ _ (Nat.lt_of_lt_of_le h1 h.1)).trans (h.2.1 b o h1 h2), fun b o h1 => (hb.frozens _ _ (Nat.lt_of_lt_of_le h1 h.1)).trans (h.2.2 b o h1)⟩
theorem But.set {W X : World} {B : Nat} (h : But W X B) (o : Nat) (ho : 4 ≤ o) (x : Value) : But W (X.setCell ⟨B, o, none⟩ x) B := by
  refine ⟨?_, fun b p h1 h2 => ?_, fun b p h1 => ?_⟩
  · have := h.1; simpa [World.setCell] using this
  · rw [← h.2.1 b p h1 h2]
    rcases h2 with h2 | h2
    · have n1 : ¬ B = b := fun e => h2 e.symm
      simp [go_sem, n1]
    · have n1 : ¬ o = p := by omega
      simp [go_sem, n1]
  · rw [← h.2.2 b p h1]
    simp [go_sem]
set_option maxRecDepth 100000 in
set_option maxHeartbeats 8000000 in
theorem someN_any (K sc : Int) (any not : Bool) (A0 : Option Addr) (n0 c0 : Nat) (l : List Tst) (A : Option Addr) (c : Nat) (w : World) (hK : K = 1 ∨ K = 4) (hs : Tsts w A l) (hl : l.length ≤ 1000) (hsn : ∀ t ∈ l, tsnd t = true) :
    Calls Tryz.prog 45 #[tyv K sc any not (.slice A0 n0 c0), .slice A l.length c] w fun e w' => ∃ r, SetOut w ⟨K, r, false, [], 0, nulk l⟩ e w' ∧ Ord r ∧ (∀ s ∈ r, Rng s) ∧ (∀ n, SMem r n ↔ SMem (rngk K sc l) n) ∧ r.length ≤ l.length := by
  have k2 : (K == 2) = false := by rcases hK with rfl | rfl <;> rfl
  have k3 : (K == 3) = false := by rcases hK with rfl | rfl <;> rfl
  have k0 : ¬ K = 0 := by omega
  have HR := Lib.hid (rngk_rng K sc l hsn)
  have HLn := Lib.hid hl
  have li : (l.length : Int) ≤ 1000 := by omega
  clear hK hsn
  go_enter Tryz.func45, Tryz.ntmps45
  go_upto_region 4 with fail
  refine under_name (w0 := w) (by (repeat (first | with_reducible exact Bel.refl _ | with_reducible refine Bel.setCell ?_ (by first | exact Nat.le_refl _ | (dsimp only; omega)) _ | with_reducible refine Bel.alloc ?_ _ | with_reducible refine Bel.drew ?_ | with_reducible assumption | with_reducible refine Bel.trans ?_ (by assumption)))) fun W hc hf hz hb => ?_
  have m0 : W.cell? ⟨w.heap.size, 0, none⟩ = some (.int .i64 K) := by simp [hc, go_sem]
  have m1 : W.cell? ⟨w.heap.size, 1, none⟩ = some (.int .i64 sc) := by simp [hc, go_sem]
  have m2 : W.cell? ⟨w.heap.size, 2, none⟩ = some (.bool any) := by simp [hc, go_sem]
  have m3 : W.cell? ⟨w.heap.size, 3, none⟩ = some (.bool not) := by simp [hc, go_sem]
  have m4 : W.cell? ⟨w.heap.size, 4, none⟩ = some (.slice A0 n0 c0) := by simp [hc, go_sem]
  have r0 : W.cell? ⟨w.heap.size + 1, 0, none⟩ = some (.int .i64 0) := by simp [hc, go_sem]
  have r1 : W.cell? ⟨w.heap.size + 1, 1, none⟩ = some (.slice none 0 0) := by simp [hc, go_sem]
  have r2 : W.cell? ⟨w.heap.size + 1, 2, none⟩ = some (.bool false) := by simp [hc, go_sem]
  have r3 : W.cell? ⟨w.heap.size + 1, 3, none⟩ = some (.slice none 0 0) := by simp [hc, go_sem]
  have r4 : W.cell? ⟨w.heap.size + 1, 4, none⟩ = some (.int .i64 0) := by simp [hc, go_sem]
  have r5 : W.cell? ⟨w.heap.size + 1, 5, none⟩ = some (.bool false) := by simp [hc, go_sem]
  have rf0 : W.frozen? ⟨w.heap.size + 1, 0, none⟩ = false := by simp [hf, go_sem]
  have rf1 : W.frozen? ⟨w.heap.size + 1, 1, none⟩ = false := by simp [hf, go_sem]
  have rf2 : W.frozen? ⟨w.heap.size + 1, 2, none⟩ = false := by simp [hf, go_sem]
  have rf3 : W.frozen? ⟨w.heap.size + 1, 3, none⟩ = false := by simp [hf, go_sem]
  have rf4 : W.frozen? ⟨w.heap.size + 1, 4, none⟩ = false := by simp [hf, go_sem]
  have rf5 : W.frozen? ⟨w.heap.size + 1, 5, none⟩ = false := by simp [hf, go_sem]
  have s0 : W.cell? ⟨w.heap.size + 2, 0, none⟩ = some (.int .i64 K) := by simp [hc, go_sem]
  have s1 : W.cell? ⟨w.heap.size + 2, 1, none⟩ = some (.slice none 0 0) := by simp [hc, go_sem]
  have s2 : W.cell? ⟨w.heap.size + 2, 2, none⟩ = some (.bool false) := by simp [hc, go_sem]
  have s3 : W.cell? ⟨w.heap.size + 2, 3, none⟩ = some (.slice none 0 0) := by simp [hc, go_sem]
  have s4 : W.cell? ⟨w.heap.size + 2, 4, none⟩ = some (.int .i64 0) := by simp [hc, go_sem]
  have s5 : W.cell? ⟨w.heap.size + 2, 5, none⟩ = some (.bool false) := by simp [hc, go_sem]
  have sf0 : W.frozen? ⟨w.heap.size + 2, 0, none⟩ = false := by simp [hf, go_sem]
  have sf1 : W.frozen? ⟨w.heap.size + 2, 1, none⟩ = false := by simp [hf, go_sem]
  have sf2 : W.frozen? ⟨w.heap.size + 2, 2, none⟩ = false := by simp [hf, go_sem]
  have sf3 : W.frozen? ⟨w.heap.size + 2, 3, none⟩ = false := by simp [hf, go_sem]
  have sf4 : W.frozen? ⟨w.heap.size + 2, 4, none⟩ = false := by simp [hf, go_sem]
  have sf5 : W.frozen? ⟨w.heap.size + 2, 5, none⟩ = false := by simp [hf, go_sem]
  have z0 : w.heap.size + 3 ≤ W.heap.size := by simp [hz]
  clear hc hf hz
  have HW := Lib.hid z0
  go_wp2_with fail
  go_loopg [6, 15] l.length (fun g v i wr => ∃ k : Nat, i = .int .i64 k ∧ k ≤ l.length ∧ Hid (g = l.length - k) ∧ Hid (OwnS wr W.heap.size v (rngk K sc (l.take k))) ∧ Hid (But W wr (w.heap.size + 2)) ∧ wr.cell? ⟨w.heap.size + 2, 4, none⟩ = some (.int .i64 0) ∧ wr.cell? ⟨w.heap.size + 2, 5, none⟩ = some (.bool (nulk (l.take k))) ∧ Bel w wr)
  case atStart => exact ⟨0, rfl, Nat.zero_le _, rfl, OwnS.nil _ _, But.refl _ _, s4, s5, hb⟩
  case round =>
    obtain ⟨k, rfl, hk, hh, hown, hbut, y4, y5, hbw⟩ := hrel
    have BC := hbut.out.2.1
    have BF := hbut.out.2.2
    have zr : w.heap.size + 3 ≤ wr.heap.size := Nat.le_trans z0 hbut.out.1
    replace m0 := (BC _ _ (by omega) (.inl (by omega))).trans m0
    replace m1 := (BC _ _ (by omega) (.inl (by omega))).trans m1
    replace m2 := (BC _ _ (by omega) (.inl (by omega))).trans m2
    replace m3 := (BC _ _ (by omega) (.inl (by omega))).trans m3
    replace m4 := (BC _ _ (by omega) (.inl (by omega))).trans m4
    replace r0 := (BC _ _ (by omega) (.inl (by omega))).trans r0
    replace r1 := (BC _ _ (by omega) (.inl (by omega))).trans r1
    replace r2 := (BC _ _ (by omega) (.inl (by omega))).trans r2
    replace r3 := (BC _ _ (by omega) (.inl (by omega))).trans r3
    replace r4 := (BC _ _ (by omega) (.inl (by omega))).trans r4
    replace r5 := (BC _ _ (by omega) (.inl (by omega))).trans r5
    replace s0 := (BC _ _ (by omega) (.inr (by omega))).trans s0
    replace s1 := (BC _ _ (by omega) (.inr (by omega))).trans s1
    replace s2 := (BC _ _ (by omega) (.inr (by omega))).trans s2
    replace s3 := (BC _ _ (by omega) (.inr (by omega))).trans s3
    replace rf0 := (BF _ _ (by omega)).trans rf0
    replace rf1 := (BF _ _ (by omega)).trans rf1
    replace rf2 := (BF _ _ (by omega)).trans rf2
    replace rf3 := (BF _ _ (by omega)).trans rf3
    replace rf4 := (BF _ _ (by omega)).trans rf4
    replace rf5 := (BF _ _ (by omega)).trans rf5
    replace sf0 := (BF _ _ (by omega)).trans sf0
    replace sf1 := (BF _ _ (by omega)).trans sf1
    replace sf2 := (BF _ _ (by omega)).trans sf2
    replace sf3 := (BF _ _ (by omega)).trans sf3
    replace sf4 := (BF _ _ (by omega)).trans sf4
    replace sf5 := (BF _ _ (by omega)).trans sf5
    replace s4 := y4
    replace s5 := y5
    clear BC BF y4 y5 z0
    by_cases hp : k < l.length
    · obtain ⟨tb, off, rfl, hlt, hat⟩ := hs (by omega)
      obtain ⟨t, htk⟩ : ∃ t, l[k]? = some t := ⟨_, List.getElem?_eq_getElem hp⟩
      have ha := (hat k t htk).keep hbw hlt
      have HT := Lib.hid (take_snoc htk)
      have zt := Nat.lt_of_lt_of_le hlt hbw.size
      have i1 : (k : Int) < l.length := by omega
      have HS := Lib.hid fun W => span_any K sc any not A0 n0 c0 t W
      have HN := Lib.hid (nulk_snoc (l.take k) t)
      have HG := Lib.hid (rngk_snoc K sc (l.take k) t)
      rw [← HT.out] at HN HG
      have HGl := Lib.hid (Nat.le_trans (rngk_len K sc (l.take k)) (List.length_take_le k l))
      generalize hS : spU sc t = S at HS HG
      obtain ⟨S1, S2⟩ := S
      obtain ⟨tk, ⟨a0, a1, a2, a3, a4⟩, ⟨b0, b1, b2, b3, b4⟩, x, y⟩ := t
      simp only at HN HG
      obtain ⟨t0, t1, t2, t3, t4, t5, t6, t7, t8, t9, t10, t11, t12⟩ := ha
      clear hat htk hS
      simp only at t0 t1 t2 t3 t4 t5 t6 t7 t8 t9 t10 t11 t12
      generalize rngk K sc (l.take k) = rs at hown HG HGl
      generalize nulk (l.take k) = q at s5 HN
      go_upto_region 8 with fail
      refine under_name (w0 := wr) ((Bel.refl wr).alloc _) fun X hc hf hz hbx => ?_
      have x0 : X.cell? ⟨wr.heap.size, 0, none⟩ = some (.int .i64 tk) := by simp [hc, go_sem]
      have x1 : X.cell? ⟨wr.heap.size, 1, none⟩ = some (.int .i64 a0) := by simp [hc, go_sem]
      have x2 : X.cell? ⟨wr.heap.size, 2, none⟩ = some (.int .i64 a1) := by simp [hc, go_sem]
      have x3 : X.cell? ⟨wr.heap.size, 3, none⟩ = some (.int .i64 a2) := by simp [hc, go_sem]
      have x4 : X.cell? ⟨wr.heap.size, 4, none⟩ = some (.string a3) := by simp [hc, go_sem]
      have x5 : X.cell? ⟨wr.heap.size, 5, none⟩ = some (.int .i64 a4) := by simp [hc, go_sem]
      have x6 : X.cell? ⟨wr.heap.size, 6, none⟩ = some (.int .i64 b0) := by simp [hc, go_sem]
      have x7 : X.cell? ⟨wr.heap.size, 7, none⟩ = some (.int .i64 b1) := by simp [hc, go_sem]
      have x8 : X.cell? ⟨wr.heap.size, 8, none⟩ = some (.int .i64 b2) := by simp [hc, go_sem]
      have x9 : X.cell? ⟨wr.heap.size, 9, none⟩ = some (.string b3) := by simp [hc, go_sem]
      have x10 : X.cell? ⟨wr.heap.size, 10, none⟩ = some (.int .i64 b4) := by simp [hc, go_sem]
      have x11 : X.cell? ⟨wr.heap.size, 11, none⟩ = some (.bool x) := by simp [hc, go_sem]
      have x12 : X.cell? ⟨wr.heap.size, 12, none⟩ = some (.bool y) := by simp [hc, go_sem]
      have zx : wr.heap.size + 1 ≤ X.heap.size := by simp [hz]
      clear hc hf hz t0 t1 t2 t3 t4 t5 t6 t7 t8 t9 t10 t11 t12 zt
      have B4 := Lib.hid s4
      have B5 := Lib.hid s5
      replace m0 := (hbx.cells _ _ (by omega)).trans m0
      replace m1 := (hbx.cells _ _ (by omega)).trans m1
      replace m2 := (hbx.cells _ _ (by omega)).trans m2
      replace m3 := (hbx.cells _ _ (by omega)).trans m3
      replace m4 := (hbx.cells _ _ (by omega)).trans m4
      replace r0 := (hbx.cells _ _ (by omega)).trans r0
      replace r1 := (hbx.cells _ _ (by omega)).trans r1
      replace r2 := (hbx.cells _ _ (by omega)).trans r2
      replace r3 := (hbx.cells _ _ (by omega)).trans r3
      replace r4 := (hbx.cells _ _ (by omega)).trans r4
      replace r5 := (hbx.cells _ _ (by omega)).trans r5
      replace s0 := (hbx.cells _ _ (by omega)).trans s0
      replace s1 := (hbx.cells _ _ (by omega)).trans s1
      replace s2 := (hbx.cells _ _ (by omega)).trans s2
      replace s3 := (hbx.cells _ _ (by omega)).trans s3
      replace s4 := (hbx.cells _ _ (by omega)).trans s4
      replace s5 := (hbx.cells _ _ (by omega)).trans s5
      replace rf0 := (hbx.frozens _ _ (by omega)).trans rf0
      replace rf1 := (hbx.frozens _ _ (by omega)).trans rf1
      replace rf2 := (hbx.frozens _ _ (by omega)).trans rf2
      replace rf3 := (hbx.frozens _ _ (by omega)).trans rf3
      replace rf4 := (hbx.frozens _ _ (by omega)).trans rf4
      replace rf5 := (hbx.frozens _ _ (by omega)).trans rf5
      replace sf0 := (hbx.frozens _ _ (by omega)).trans sf0
      replace sf1 := (hbx.frozens _ _ (by omega)).trans sf1
      replace sf2 := (hbx.frozens _ _ (by omega)).trans sf2
      replace sf3 := (hbx.frozens _ _ (by omega)).trans sf3
      replace sf4 := (hbx.frozens _ _ (by omega)).trans sf4
      replace sf5 := (hbx.frozens _ _ (by omega)).trans sf5
      by_cases e0 : a0 = 0
      · subst e0
        have hR := Lib.hid (HG.out.trans (if_neg (by omega)))
        have hQ := Lib.hid (show nulk (l.take (k + 1)) = true from by rw [HN.out]; simp)
        go_wp2_with fail
        go_roundg (l.length - (k + 1))
        case measure => have := hh.out; omega
        case rel =>
          exact ⟨k + 1, by go_num, by omega, rfl, by show OwnS _ _ _ _; rw [hR.out]; exact own_set (hown.out.keep hbx) (by have := HW.out; dsimp only; omega) _, (hbut.out.bel hbx).set 5 (by omega) _, by simp [go_sem, s4], by rw [hQ.out]; simp [go_sem, s5], (hbw.trans hbx).setCell (by dsimp only; omega) _⟩
      · have f0 : (a0 == 0) = false := by simp [e0]
        have hQ := Lib.hid (show nulk (l.take (k + 1)) = q from by rw [HN.out]; simp [e0])
        by_cases eK : a0 = K
        · subst eK
          have hR := Lib.hid (HG.out.trans (if_pos rfl))
          obtain ⟨A6, c6, rfl, hsp6, hA6, hc6⟩ := hown.out.sps
          have H6 := Lib.hid (And.intro hsp6 hA6)
          clear hsp6 hA6 hc6
          have hHB := Nat.le_trans hbut.out.1 hbx.size
          have HC := Lib.hid (show ∀ X1, Bel X X1 → Calls Tryz.prog 68 #[.slice (some ⟨X1.heap.size + 1, 0, none⟩) 2 2] ((X1.alloc (.cells #[.int .i64 S1, .int .i64 S2] 61)).alloc (.cells #[.slice A6 rs.length c6, .slice (some ⟨X1.heap.size, 0, none⟩) 1 1] 34)) fun e w' => ∃ v, e = .returned v ∧ OwnS w' W.heap.size v (rs ++ [(S1, S2)]) ∧ Bel X1 w' from fun X1 hx1 => by
            have hA : Bel X1 ((X1.alloc (.cells #[.int .i64 S1, .int .i64 S2] 61)).alloc (.cells #[.slice A6 rs.length c6, .slice (some ⟨X1.heap.size, 0, none⟩) 1 1] 34)) := ((Bel.refl _).alloc _).alloc _
            have h6 := H6.out.1.keep ((hbx.trans hx1).trans hA)
            have h7 := (sps_one X1 (S1, S2) rfl).keep ((Bel.refl _).alloc (.cells #[.slice A6 rs.length c6, .slice (some ⟨X1.heap.size, 0, none⟩) 1 1] 34))
            have hn : rs.length + [(S1, S2)].length ≤ 1000000 := by have := HGl.out; have := HLn.out; simp; omega
            refine Calls.mono (concatS_any rs [(S1, S2)] A6 (some ⟨X1.heap.size, 0, none⟩) c6 1 (X1.heap.size + 1) 2 _ (by simp) (by simp [go_sem]) (by simp [go_sem]) h6 h7 H6.out.2 (fun h => by cases h) hn) ?_
            rintro e w' ⟨v, rfl, ho, hb'⟩
            exact ⟨v, rfl, ho.base (Nat.le_trans hHB (Nat.le_trans hx1.size hA.size)), hA.trans hb'⟩)
          go_wp2_with (first
            | (go_at_call 69; (with_reducible refine Calls.mono (HS.out _) ?_); rintro e X1 ⟨rfl, hx1⟩; have zx1 := hx1.size)
            | (go_at_call 68; (with_reducible refine Calls.mono (HC.out _ hx1) ?_); rintro e X3 ⟨v', rfl, ho, hx3⟩; have HO := Lib.hid ho; have hx4 := (hbx.trans hx1).trans hx3; clear ho hx3))
          go_roundg (l.length - (k + 1))
          case measure => have := hh.out; omega
          case rel =>
            exact ⟨k + 1, by go_num, by omega, rfl, by show OwnS _ _ _ _; rw [hR.out]; exact HO.out, hbut.out.bel hx4, (hx4.cells _ _ (by omega)).trans B4.out, by rw [hQ.out]; exact (hx4.cells _ _ (by omega)).trans B5.out, hbw.trans hx4⟩
        · have fK : (a0 == K) = false := by simp [eK]
          have hR := Lib.hid (HG.out.trans (if_neg eK))
          go_wp2_with fail
          go_roundg (l.length - (k + 1))
          case measure => have := hh.out; omega
          case rel =>
            exact ⟨k + 1, by go_num, by omega, rfl, by show OwnS _ _ _ _; rw [hR.out]; exact hown.out.keep hbx, hbut.out.bel hbx, s4, by rw [hQ.out]; exact s5, hbw.trans hbx⟩
    · obtain rfl : k = l.length := by omega
      have e0 := hown.out
      rw [List.take_length] at e0 s5
      have HO := Lib.hid e0
      clear hown e0
      have HJ := Lib.hid fun W' (v : Value) (h : SlS W' v (rngk K sc l)) => join_any v (rngk K sc l) W' h (Nat.le_trans (rngk_len K sc l) HLn.out) HR.out
      have HGl := Lib.hid (rngk_len K sc l)
      have z9 := hbut.out.1
      have zW := HW.out
      go_wp2_with (go_at_call 47; refine (HJ.out _ _ HO.out.sl).mono ?_; rintro e X1 ⟨v', r, rfl, o1, o2, o3, ⟨o4, o5⟩, hx1⟩; obtain ⟨A', c', rfl, hS⟩ := SpP.of_own o1; have HS := Lib.hid hS; have HX := Lib.hid (And.intro o2 (And.intro o3 (And.intro o4 (Nat.le_trans o5 HGl.out)))); clear o1 o2 o3 o4 o5 hS; have hbX := hbw.trans hx1; have zx1 := hx1.size; replace m0 := (hx1.cells _ _ (by omega)).trans m0; replace m1 := (hx1.cells _ _ (by omega)).trans m1; replace m2 := (hx1.cells _ _ (by omega)).trans m2; replace m3 := (hx1.cells _ _ (by omega)).trans m3; replace m4 := (hx1.cells _ _ (by omega)).trans m4; replace r0 := (hx1.cells _ _ (by omega)).trans r0; replace r1 := (hx1.cells _ _ (by omega)).trans r1; replace r2 := (hx1.cells _ _ (by omega)).trans r2; replace r3 := (hx1.cells _ _ (by omega)).trans r3; replace r4 := (hx1.cells _ _ (by omega)).trans r4; replace r5 := (hx1.cells _ _ (by omega)).trans r5; replace rf0 := (hx1.frozens _ _ (by omega)).trans rf0; replace rf1 := (hx1.frozens _ _ (by omega)).trans rf1; replace rf2 := (hx1.frozens _ _ (by omega)).trans rf2; replace rf3 := (hx1.frozens _ _ (by omega)).trans rf3; replace rf4 := (hx1.frozens _ _ (by omega)).trans rf4; replace rf5 := (hx1.frozens _ _ (by omega)).trans rf5; replace s0 := (hx1.cells _ _ (by omega)).trans s0; replace s1 := (hx1.cells _ _ (by omega)).trans s1; replace s2 := (hx1.cells _ _ (by omega)).trans s2; replace s3 := (hx1.cells _ _ (by omega)).trans s3; replace s4 := (hx1.cells _ _ (by omega)).trans s4; replace s5 := (hx1.cells _ _ (by omega)).trans s5; replace sf0 := (hx1.frozens _ _ (by omega)).trans sf0; replace sf1 := (hx1.frozens _ _ (by omega)).trans sf1; replace sf2 := (hx1.frozens _ _ (by omega)).trans sf2; replace sf3 := (hx1.frozens _ _ (by omega)).trans sf3; replace sf4 := (hx1.frozens _ _ (by omega)).trans sf4; replace sf5 := (hx1.frozens _ _ (by omega)).trans sf5)
      refine bodyPost_ret (by simp [results, Tryz.results45, go_sem, r0, s0, rf0, sf0, r1, s1, rf1, sf1, r2, s2, rf2, sf2, r3, s3, rf3, sf3, r4, s4, rf4, sf4, r5, s5, rf5, sf5]; try rfl) rfl ⟨r, ⟨A', c', none, 0, rfl, SpP.low (SpP.other (SpP.low HS.out (show w.heap.size + 3 ≤ wr.heap.size from by omega)) (by simp) fun k o hk => ?_) (Nat.le_add_right _ _), StP.nil _ _, ?_⟩, HX.out⟩
      · have n1 : ¬ w.heap.size + 1 = k := by omega
        have n2 : ¬ w.heap.size + 2 = k := by omega
        simp [go_sem, n1, n2]
      · (repeat (first | with_reducible exact Bel.refl _ | with_reducible refine Bel.setCell ?_ (by first | exact Nat.le_refl _ | (dsimp only; omega)) _ | with_reducible refine Bel.alloc ?_ _ | with_reducible refine Bel.drew ?_ | with_reducible assumption | with_reducible refine Bel.trans ?_ (by assumption)))
end Go.Proofs.YtpmmbcobjibpeaaGreatDoor
