import Derived.Test.YthfkbonbgdioaaaGreatDoorExe
import Derived.Test.YthfkbonbgdioaaaGreatDoorLay
import Derived.Shelf.SlicesE.Clone
namespace Go.Proofs.YthfkbonbgdioaaaGreatDoor
set_option linter.unusedSimpArgs false
set_option linter.unusedVariables false
open Go.RowKit
/-! A part of parts: its kids are copied. -/
def c8 (x : Ex) (k : Option Addr × Nat) : List Value := [.int .i64 x.op, .int .i64 x.v.kind, .int .i64 x.v.n, .int .i64 x.v.scale, .string x.v.text, .int .i64 x.v.num, .string (bytesOf x.nm), .slice k.1 x.ks.length k.2]
def flatE : List Ex → List (Option Addr × Nat) → List Value
  | x :: l, k :: ks => c8 x k ++ flatE l ks
  | _, _ => []
theorem flatE_len : ∀ (l : List Ex) (ks : List (Option Addr × Nat)), ks.length = l.length → (flatE l ks).length = l.length * 8
  | [], [], _ => rfl
  | [], _ :: _, h => by cases h
  | _ :: _, [], h => by cases h
  | x :: l, k :: ks, h => by
    unfold flatE
    rw [List.length_append, flatE_len l ks (by simpa using h)]
    simp [c8]
    omega
theorem flatE_at : ∀ (l : List Ex) (ks : List (Option Addr × Nat)) (j i : Nat) (x : Ex) (k : Option Addr × Nat) (u : Value), l[j]? = some x → ks[j]? = some k → (c8 x k)[i]? = some u → (flatE l ks)[j * 8 + i]? = some u
  | [], ks, j, i, x, k, u, h, _, _ => by simp at h
  | y :: l, [], j, i, x, k, u, _, h, _ => by simp at h
  | y :: l, q :: ks, 0, i, x, k, u, h, hk, hu => by
    obtain rfl : y = x := by simpa using h
    obtain rfl : q = k := by simpa using hk
    unfold flatE
    rw [Nat.zero_mul, Nat.zero_add, List.getElem?_append_left (List.getElem?_eq_some_iff.1 hu).1]
    exact hu
  | y :: l, q :: ks, j + 1, i, x, k, u, h, hk, hu => by
    unfold flatE
    rw [List.getElem?_append_right (by simp [c8]; omega)]
    rw [show (j + 1) * 8 + i - (c8 y q).length = j * 8 + i by simp [c8]; omega]
    exact flatE_at l ks j i x k u h hk hu
theorem flatE_get : ∀ (l : List Ex) (ks : List (Option Addr × Nat)) (j : Nat) (u : Value), (flatE l ks)[j]? = some u → ∃ x k, l[j / 8]? = some x ∧ ks[j / 8]? = some k ∧ (c8 x k)[j % 8]? = some u
  | [], ks, j, u, h => by unfold flatE at h; simp at h
  | y :: l, [], j, u, h => by unfold flatE at h; simp at h
  | y :: l, q :: ks, j, u, h => by
    unfold flatE at h
    by_cases hj : j < 8
    · rw [List.getElem?_append_left (by simp [c8]; omega)] at h
      have e0 : j / 8 = 0 := by omega
      have e1 : j % 8 = j := by omega
      rw [e0, e1]
      exact ⟨y, q, rfl, rfl, h⟩
    · rw [List.getElem?_append_right (by simp [c8]; omega)] at h
      have e : j - (c8 y q).length = j - 8 := by simp [c8]
      rw [e] at h
      obtain ⟨x, k, h1, h2, h3⟩ := flatE_get l ks (j - 8) u h
      have e0 : j / 8 = (j - 8) / 8 + 1 := by omega
      have e1 : j % 8 = (j - 8) % 8 := by omega
      rw [e0, e1]
      exact ⟨x, k, by simpa using h1, by simpa using h2, h3⟩
theorem flatE_one (l : List Ex) (ks : List (Option Addr × Nat)) : ∀ u ∈ flatE l ks, u.oneCell' = true := by
  intro u hu
  obtain ⟨j, hj⟩ := List.mem_iff_getElem?.1 hu
  obtain ⟨x, k, _, _, h⟩ := flatE_get l ks j u hj
  have hm := List.mem_of_getElem? h
  simp only [c8, List.mem_cons, List.not_mem_nil, or_false] at hm
  rcases hm with rfl | rfl | rfl | rfl | rfl | rfl | rfl | rfl <;> rfl
theorem exAt_of {w : World} {b o : Nat} {x : Ex} {k : Option Addr × Nat} (h : ∀ i u, (c8 x k)[i]? = some u → w.cell? ⟨b, o + i, none⟩ = some u) : ExAt w b o x.op x.v (bytesOf x.nm) k.1 x.ks.length k.2 :=
  ⟨h 0 _ rfl, h 1 _ rfl, h 2 _ rfl, h 3 _ rfl, h 4 _ rfl, h 5 _ rfl, h 6 _ rfl, h 7 _ rfl⟩
theorem exAt_get {w : World} {b o : Nat} {x : Ex} {k : Option Addr × Nat} (h : ExAt w b o x.op x.v (bytesOf x.nm) k.1 x.ks.length k.2) : ∀ i u, (c8 x k)[i]? = some u → w.cell? ⟨b, o + i, none⟩ = some u := by
  obtain ⟨h0, h1, h2, h3, h4, h5, h6, h7⟩ := h
  intro i u hu
  match i, hu with
  | 0, hu => simp only [c8, List.getElem?_cons_zero, Option.some.injEq] at hu; subst hu; exact h0
  | 1, hu => simp only [c8, List.getElem?_cons_succ, List.getElem?_cons_zero, Option.some.injEq] at hu; subst hu; exact h1
  | 2, hu => simp only [c8, List.getElem?_cons_succ, List.getElem?_cons_zero, Option.some.injEq] at hu; subst hu; exact h2
  | 3, hu => simp only [c8, List.getElem?_cons_succ, List.getElem?_cons_zero, Option.some.injEq] at hu; subst hu; exact h3
  | 4, hu => simp only [c8, List.getElem?_cons_succ, List.getElem?_cons_zero, Option.some.injEq] at hu; subst hu; exact h4
  | 5, hu => simp only [c8, List.getElem?_cons_succ, List.getElem?_cons_zero, Option.some.injEq] at hu; subst hu; exact h5
  | 6, hu => simp only [c8, List.getElem?_cons_succ, List.getElem?_cons_zero, Option.some.injEq] at hu; subst hu; exact h6
  | 7, hu => simp only [c8, List.getElem?_cons_succ, List.getElem?_cons_zero, Option.some.injEq] at hu; subst hu; exact h7
  | n + 8, hu => simp [c8] at hu
/-- What lies as a list, as a row of cells and what lies below. -/
theorem lie_cells {P : Nat → Prop} {n : Nat} {w : World} {A : Option Addr} {l : List Ex} (h : LieAt P (n + 1) w A l) (h0 : 0 < l.length) : ∃ (b off : Nat) (ks : List (Option Addr × Nat)), A = some ⟨b, off, none⟩ ∧ P b ∧ b < w.heap.size ∧ ks.length = l.length ∧ (∀ j u, (flatE l ks)[j]? = some u → w.cell? ⟨b, off + j, none⟩ = some u) ∧ ∀ (i : Nat) (x : Ex) (k : Option Addr × Nat), l[i]? = some x → ks[i]? = some k → LieAt P n w k.1 x.ks := by
  obtain ⟨b, off, hA, hP, hlt, hat⟩ := h h0
  have hx : ∀ i : Fin l.length, ∃ k : Option Addr × Nat, ExAt w b (off + i * 8) (l[i]).op (l[i]).v (bytesOf (l[i]).nm) k.1 (l[i]).ks.length k.2 ∧ LieAt P n w k.1 (l[i]).ks := fun i => by
    obtain ⟨A', c', k1, k2⟩ := hat i l[i] (List.getElem?_eq_getElem i.2)
    exact ⟨(A', c'), k1, k2⟩
  let f : Fin l.length → Option Addr × Nat := fun i => Classical.choose (hx i)
  have hf := fun i => Classical.choose_spec (hx i)
  have hg : ∀ i k, (List.ofFn f)[i]? = some k → ∃ hi : i < l.length, k = f ⟨i, hi⟩ := by
    intro i k hk
    have hi : i < l.length := by
      have := (List.getElem?_eq_some_iff.1 hk).1
      simpa using this
    refine ⟨hi, ?_⟩
    rw [List.getElem?_eq_getElem (by simpa using hi)] at hk
    simpa using (Option.some.inj hk).symm
  refine ⟨b, off, List.ofFn f, hA, hP, hlt, by simp, ?_, ?_⟩
  · intro j u hu
    obtain ⟨x, k, h1, h2, h3⟩ := flatE_get l _ j u hu
    obtain ⟨hi, rfl⟩ := hg _ _ h2
    have e : l[j / 8] = x := by
      rw [List.getElem?_eq_getElem hi] at h1
      exact Option.some.inj h1
    have k1 := (hf ⟨j / 8, hi⟩).1
    have := exAt_get (x := l[j / 8]) (k := f ⟨j / 8, hi⟩) k1 (j % 8) u (by rw [e]; exact h3)
    rw [show off + j = off + j / 8 * 8 + j % 8 by omega]
    exact this
  · intro i x k h1 h2
    obtain ⟨hi, rfl⟩ := hg _ _ h2
    have e : l[i] = x := by
      rw [List.getElem?_eq_getElem hi] at h1
      exact Option.some.inj h1
    rw [← e]
    exact (hf ⟨i, hi⟩).2
theorem lie_of {P : Nat → Prop} {n : Nat} {w : World} {b off : Nat} {l : List Ex} {ks : List (Option Addr × Nat)} (hk : ks.length = l.length) (hP : P b) (hb : b < w.heap.size) (hc : ∀ j u, (flatE l ks)[j]? = some u → w.cell? ⟨b, off + j, none⟩ = some u) (hs : ∀ (i : Nat) (x : Ex) (k : Option Addr × Nat), l[i]? = some x → ks[i]? = some k → LieAt P n w k.1 x.ks) : LieAt P (n + 1) w (some ⟨b, off, none⟩) l := fun h0 => by
  refine ⟨b, off, rfl, hP, hb, fun i x hx => ?_⟩
  have hi : i < ks.length := by rw [hk]; exact (List.getElem?_eq_some_iff.1 hx).1
  have e := List.getElem?_eq_getElem hi
  refine ⟨ks[i].1, ks[i].2, exAt_of fun m u hu => ?_, hs i x _ hx e⟩
  have := hc _ u (flatE_at l ks i m x _ u hx e hu)
  rw [show off + i * 8 + m = off + (i * 8 + m) by omega]
  exact this
theorem infoX : (Tryz.prog.info? 28).map (fun i => (i.zero, i.size, i.bytes)) = some (some (.agg #[.int .i64 0, .int .i64 0, .int .i64 0, .int .i64 0, .string ⟨#[]⟩, .int .i64 0, .string ⟨#[]⟩, .slice none 0 0]), 8, 96) := by kernel_rfl
theorem infoX' : ∃ i0, Tryz.prog.info? 28 = some i0 ∧ i0.zero = some (.agg #[.int .i64 0, .int .i64 0, .int .i64 0, .int .i64 0, .string ⟨#[]⟩, .int .i64 0, .string ⟨#[]⟩, .slice none 0 0]) ∧ i0.size = 8 ∧ i0.bytes = 96 := by
  obtain ⟨i0, h1, h2⟩ := Option.map_eq_some_iff.1 infoX
  simp only [Prod.mk.injEq] at h2
  exact ⟨i0, h1, h2.1, h2.2.1, h2.2.2⟩
theorem clone_any (P : Nat → Prop) (l : List Ex) (A : Option Addr) (c : Nat) (w : World) (hl : l.length ≤ 1000) (h0 : 0 < l.length) (hL : Lie P w A l) (hPw : ∀ k, w.heap.size ≤ k → P k) :
    Calls Tryz.prog 102 #[.slice A l.length c] w fun e w' => ∃ A' c', e = .returned (.slice A' l.length c') ∧ Lie P w' A' l ∧ Bel w w' := by
  obtain ⟨n, hn⟩ := hL
  obtain ⟨b, off, ks, rfl, hP, hlt, hk, hc, hs⟩ := lie_cells (LieAt.more n hn) h0
  obtain ⟨i0, hi, hz0, hz1, hz2⟩ := infoX'
  refine (AnyE.slices_Clone Tryz.cloneX i0 _ 8 96 hi hz0 hz1 hz2 rfl (by omega) Tryz.sizeOf28 b off l.length c (flatE l ks) w (flatE_len l ks hk) (by unfold maxLen; omega) (by omega) hc (flatE_one l ks)).mono fun e w' h => ?_
  obtain ⟨v', he, hown, hne, hbel⟩ := h
  have hB : Bel w w' := hbel
  have hown' := hown
  obtain ⟨h1, h2⟩ := hown
  rcases h2 with ⟨hv, hnil⟩ | ⟨g, cap, cur, hv, hg, _⟩
  · exact absurd hv hne
  · subst hv
    have hlt' := (World.ownsRow.lt hown' g rfl)
    refine ⟨some ⟨g, 0, none⟩, cap, he, ⟨n + 1, lie_of hk (hPw g hg) hlt'.2 (fun j u hu => ?_) fun i x k hx hkk => (hs i x k hx hkk).keep hB.size (fun b o _ hlt => hB.cells b o hlt) n⟩, hB⟩
    have := hown'.cells (g := g) rfl j u hu
    rwa [Go.WideShapes.add_plain] at this
set_option maxRecDepth 100000 in
set_option maxHeartbeats 8000000 in
theorem part_any (P : Nat → Prop) (o : Int) (ks : List Ex) (A0 : Option Addr) (c0 : Nat) (ts : List Tok) (w : World) (b : Nat) (A : Option Addr) (c i : Nat) (en wo : Int) (p : Nat) (d : Int) (hC : Cx ts A b w) (hr : Psr w b A ts.length c i en wo 0 p d) (hi : i ≤ ts.length) (hL : Lie P w A0 ks) (hk0 : 0 < ks.length) (hk3 : ks.length ≤ 3) (hP : ¬ P b) (hPw : ∀ k, w.heap.size ≤ k → P k) (hp : p ≤ 4096) :
    Calls Tryz.prog 64 #[.pointer (some ⟨b, 0, none⟩), .int .i64 o, .slice A0 ks.length c0] w (XOut P ts b A c en wo d (cmpX (.mk o zv [] ks) p (ts.drop i)) w) := by
  have hbw := hr.1.1
  have KR := Lib.hid hr
  have KC := Lib.hid hC
  have KPw := Lib.hid hPw
  have KL := Lib.hid hL
  have CC := Lib.hid fun (Q : Nat → Prop) W (hW : Bel w W) (hQ : ∀ k, P k → k < w.heap.size → Q k) (hQw : ∀ k, W.heap.size ≤ k → Q k) => clone_any Q ks A0 c0 W (by omega) hk0 ((KL.out.weak hQ).keep hW) hQw
  have CP := Lib.hid fun (Q : Nat → Prop) (A1 : Option Addr) (c1 : Nat) W (hW : Bel w W) (hQ : ¬ Q b) (h1 : Lie Q W A1 ks) => (show Calls Tryz.prog 101 #[.pointer (some ⟨b, 0, none⟩), .agg #[.int .i64 o, .int .i64 0, .int .i64 0, .int .i64 0, .string ⟨#[]⟩, .int .i64 0, .string ⟨#[]⟩, .slice A1 ks.length c1]] W (XOut Q ts b A c en wo d (cmpX (.mk o zv [] ks) p (ts.drop i)) W) from complete_any Q (.mk o zv [] ks) A1 c1 ts W b A c i en wo p d (KC.out.keep hW) (KR.out.keep hW) hi h1 hQ hp)
  generalize hq : cmpX (.mk o zv [] ks) p (ts.drop i) = q at CP ⊢
  generalize hnk : ks.length = nk at CC CP ⊢
  clear hC hr hPw hL hk0 hk3 hp hq hnk
  go_enter Tryz.func64, Tryz.ntmps64
  go_upto_region 1 with fail
  refine under_name ((Bel.refl w).alloc _) fun W hcc hf hz hb => ?_
  have T1 : XFree W w.heap.size 0 zv ⟨#[]⟩ none 0 0 := by simp [XFree, ExAt, zv, hcc, hf, hz, go_sem]
  clear hcc hf hz
  have hwW : w.heap.size < W.heap.size := T1.1
  generalize hN : w.heap.size = N at T1 hwW ⊢
  have NW := Lib.hid (show w.heap.size ≤ N from by omega)
  have nb : N ≠ b := by omega
  clear hN
  have xN : ¬ b = N := fun e => nb e.symm
  have K1 := Lib.hid T1
  clear T1
  have KP := Lib.hid (KR.out.keep hb)
  have B1 := Lib.hid (Bag.of (b := b) hb)
  have KPP := Lib.hid KPw.out
  have hPN : ¬ (fun k => P k ∧ k ≠ N) b := fun h => hP h.1
  have hPNN : ¬ (fun k => P k ∧ k ≠ N) N := fun h => h.2 rfl
  have hPNw := Lib.hid (show ∀ k, W.heap.size ≤ k → (fun k => P k ∧ k ≠ N) k from fun k hk => ⟨KPw.out k (by have := NW.out; omega), by omega⟩)
  have CC2 := Lib.hid fun X (hX : X = W) => CC.out (fun k => P k ∧ k ≠ N) X (by rw [hX]; exact hb) (fun k hk hlt => ⟨hk, by have := NW.out; omega⟩) (by rw [hX]; exact hPNw.out)
  have CP2 := Lib.hid fun A1 c1 X (hX : Bel W X) (h1 : Lie (fun k => P k ∧ k ≠ N) X A1 ks) => CP.out (fun k => P k ∧ k ≠ N) A1 c1 X (hb.trans hX) hPN h1
  go_wp2_with (first
    | (go_at_call 102; (with_reducible refine Calls.mono (CC2.out _ rfl) ?_); rintro ee V1 ⟨A1, c1, rfl, hl1, hb1⟩; have hq1 := Lib.hid hb1; have hl1' := Lib.hid hl1; clear hb1 hl1)
    | (go_at_call 101; (with_reducible refine Calls.mono (CP2.out _ _ _ hq1.out hl1'.out) ?_); rintro ee V3 ⟨j3, wr3, e3, p3, d3, o3, v3, nm3, A3, n3, c3, ok3, hb3, hr3, hj3, rfl, hx3⟩; have bg3 := Lib.hid ((B1.out.trans (Bag.of hq1.out)).trans hb3); have ps3 := Lib.hid hr3; have xr3 := Lib.hid hx3; obtain ⟨vk3, vn3, vs3, vt3, vm3⟩ := v3; obtain ⟨sz, ⟨s0, s1, s2, s3, s4, s5, s6, s7⟩, ⟨sf0, sf1, sf2, sf3, sf4, sf5, sf6, sf7⟩⟩ := (K1.out.keep hq1.out).bag hb3 nb; simp only [zv, Nat.zero_add] at s0 s1 s2 s3 s4 s5 s6 s7; clear hb3 hr3 hx3))
  refine bodyPost_ret (v := .tuple #[exV o3 ⟨vk3, vn3, vs3, vt3, vm3⟩ nm3 A3 n3 c3, .bool ok3]) (by simp [results, Tryz.results64, go_sem, zv, sz, s0, s1, s2, s3, s4, s5, s6, s7]) rfl (xout_mk (j := j3) (wr' := wr3) (e' := e3) (p' := p3) (d' := d3) ?_ ?_ hj3 rfl ?_)
  · repeat (first | with_reducible exact bg3.out | refine Bag.new ?_ NW.out _)
  · repeat (first | with_reducible exact ps3.out | refine Psr.far ?_ xN _)
  · intro _
    refine XRes.move xr3.out fun l hl => (hl.bag (b := N) ?_ hPNN).weak fun k h _ => h.1
    repeat (first | with_reducible exact Bag.refl N V3 | refine Bag.setCell (b := N) ?_ rfl _)
end Go.Proofs.YthfkbonbgdioaaaGreatDoor
