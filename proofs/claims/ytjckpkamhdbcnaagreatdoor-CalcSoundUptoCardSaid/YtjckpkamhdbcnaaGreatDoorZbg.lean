import Derived.Test.YtjckpkamhdbcnaaGreatDoorZbe
import Derived.Test.YtjckpkamhdbcnaaGreatDoorZbd
import Derived.Test.YtjckpkamhdbcnaaGreatDoorZbf
import Derived.Test.YtjckpkamhdbcnaaGreatDoorZo
namespace Go.Proofs.YtjckpkamhdbcnaaGreatDoor
set_option linter.unusedSimpArgs false
set_option linter.unusedVariables false
open Go.RowKit
theorem Lie.get2 {P : Nat -> Prop} {w : World} {A : Option Addr} {l : List Ex} {q : Nat} {x : Ex} (h : Lie P w A l) (hx : l[q]? = some x) : ∃ b off, A = some ⟨b, off, none⟩ /\ P b /\ b < w.heap.size /\ ∃ A' c', Qap w b (off + q * 8) x.op x.v (Qaa x.nm) A' x.ks.length c' /\ Lie P w A' x.ks := by
 obtain ⟨n, h⟩ := h
 have h0 : 0 < l.length := Nat.lt_of_le_of_lt (Nat.zero_le _) (List.getElem?_eq_some_iff.1 hx).1
 cases n with
 | zero =>
  have h : l = [] := h
  rw [h] at h0
  exact absurd h0 (Nat.lt_irrefl _)
 | succ n =>
  obtain ⟨b, off, h1, h2, h3, h4⟩ := h h0
  obtain ⟨A', c', h5, h6⟩ := h4 q x hx
  exact ⟨b, off, h1, h2, h3, A', c', h5, n, h6⟩
theorem Qkz : ∀ (l : List Ex), okL l = true -> ∀ x ∈ l, okX x = true
 | [], _, x, h => by cases h
 | y :: l, h, x, hx => by
  rw [okL, bA] at h
  rcases List.mem_cons.1 hx with rfl | hx
  ·exact h.1
  exact Qkz l h.2 x hx
theorem Qby {o : Int} {v : Val} {nm : List UInt8} {ks : List Ex} (h : okX (.mk o v nm ks) = true) : ks.length <= 3 /\ ∀ y ∈ ks, okX y = true := by
 rw [okX, bA] at h
 refine ⟨?_, Qkz ks h.2⟩
 rw [(Qbt h.1).2.2.1]
 unfold kidN
 repeat' split
 all_goals omega
def lookB (l : List Bnd) (s : ByteArray) : Val := match l.find? (nmIs s) with
 | some x => x.v
 | none => zero
def g3 (r : List Val) (i : Nat) : Val := r.getD i zero
def evO (l : List Bnd) (o : Int) (v : Val) (nm : ByteArray) (r : List Val) : Val :=
 if o = 1 then v else if o = 2 then lookB l nm else if o = 3 then rck 5 num0 (g3 r 0) else if o = 4 \/ o = 5 \/ o = 6 \/ o = 7 then rck o (g3 r 0) (g3 r 1)
 else if o = 16 then nt (g3 r 0) else if o = 14 then jn false [g3 r 0, g3 r 1] else if o = 15 then jn true [g3 r 0, g3 r 1]
 else if o = 17 then (if veq (g3 r 0) (tval true) = true then g3 r 1 else g3 r 2) else cmpd o (g3 r 0) (g3 r 1)
mutual
def evX (l : List Bnd) : Ex -> Val
 | .mk o v nm ks => evO l o v (Qaa nm) (evL l ks)
def evL (l : List Bnd) : List Ex -> List Val
 | [] => []
 | x :: t => evX l x :: evL l t
end
mutual
def bdsX (l : List Bnd) : Ex -> Bool
 | .mk o _ nm ks => (if o = 2 then (l.find? (nmIs (Qaa nm))).isSome else true) && bdsL l ks
def bdsL (l : List Bnd) : List Ex -> Bool
 | [] => true
 | x :: t => bdsX l x && bdsL l t
end
theorem Qdd (l : List Bnd) : ∀ (ks : List Ex), bdsL l ks = true -> ∀ y ∈ ks, bdsX l y = true
 | [], _, y, h => by cases h
 | x :: t, h, y, hy => by
  rw [bdsL, bA] at h
  rcases List.mem_cons.1 hy with rfl | hy
  ·exact h.1
  exact Qdd l t h.2 y hy
theorem Qb3 (l : List Bnd) : ∀ (ks : List Ex), (evL l ks).length = ks.length
 | [] => by rw [evL]; rfl
 | x :: t => by rw [evL, List.length_cons, List.length_cons, Qb3 l t]
theorem Qde (l : List Bnd) : ∀ (ks : List Ex) (q : Nat) (y : Ex), ks[q]? = some y -> evL l (ks.take (q + 1)) = evL l (ks.take q) ++ [evX l y]
 | [], _, _, h => by cases h
 | x :: t, 0, y, h => by
  simp at h
  subst h
  simp [evL]
 | x :: t, q + 1, y, h => by
  rw [List.take_succ_cons, List.take_succ_cons, evL, evL, Qde l t q y (by simpa using h)]
  rfl
theorem Qdf (b : Bool) : vsnd (tval b) = true := by cases b <;> (unfold tval; rw [vs3, (Qa5 ⟨#[]⟩).2 rfl]; rfl)
theorem Qwj (d : Bool) (vs : List Val) : vsnd (jn d vs) = true := by
 unfold jn jr
 split
 ·split
  ·exact Qdf _
  exact Qbx
 exact Qdf _
theorem Qsz (v : Val) : vsnd (nt v) = true := by
 unfold nt
 split
 ·exact Qdf _
 split
 ·exact Qdf _
 exact Qbx
theorem Qux (a b : Val) : vsnd (eqV a b) = true := by
 unfold eqV; split
 ·exact Qdf _
 exact Qbx
theorem Quy (a b : Val) : vsnd (ltV a b) = true := by
 unfold ltV; split
 ·exact Qdf _
 exact Qbx
theorem Qro (o : Int) (a b : Val) : vsnd (cmpd o a b) = true := by
 unfold cmpd
 repeat' split
 all_goals first | exact Qux _ _ | exact Quy _ _ | exact Qsz _
theorem Qey {r : List Val} (h : ∀ v ∈ r, vsnd v = true) (i : Nat) : vsnd (g3 r i) = true := by
 unfold g3
 rw [List.getD_eq_getElem?_getD]
 cases hi : r[i]? with
 | none => exact Qbx
 | some v => exact h v (List.mem_of_getElem? hi)
theorem Qrp {l : List Bnd} (h : ∀ b ∈ l, vsnd b.v = true) (s : ByteArray) : vsnd (lookB l s) = true := by
 unfold lookB
 cases hf : l.find? (nmIs s) with
 | none => exact Qbx
 | some x => exact h x (List.mem_of_find?_eq_some hf)
theorem Quz {l : List Bnd} (h : ∀ b ∈ l, vsnd b.v = true) {o : Int} {v : Val} (hv : o = 1 -> vsnd v = true) (nm : ByteArray) {r : List Val} (hr : ∀ v ∈ r, vsnd v = true) : vsnd (evO l o v nm r) = true := by
 unfold evO
 repeat' split
 all_goals first | exact hv ‹_› | exact Qrp h _ | exact Qox _ _ _ (by rw [show num0 = (⟨1, 0, 0, ⟨#[]⟩, 0⟩ : Val) from rfl]; exact Qhe ⟨by decide, by decide, ⟨by decide, by decide⟩, .inl rfl⟩) (Qey hr _) | exact Qox _ _ _ (Qey hr _) (Qey hr _) | exact Qsz _ | exact Qwj _ _ | exact Qey hr _ | exact Qro _ _ _
theorem Qh9 {l : List Bnd} (h : ∀ b ∈ l, vsnd b.v = true) : ∀ x : Ex, okX x = true -> vsnd (evX l x) = true := Ex.ind fun op v nm ks IH ho => by
 have hp := Qbt (show prtB op v nm ks.length = true from by rw [okX, bA] at ho; exact ho.1)
 obtain ⟨-, hok⟩ := Qby ho
 rw [evX]
 refine Quz h (fun e => (hp.2.2.2.1 e).2.1) _ ?_
 clear hp ho
 induction ks with
 | nil => intro v hv; rw [evL] at hv; cases hv
 | cons y t ih =>
  intro v hv
  rw [evL] at hv
  rcases List.mem_cons.1 hv with rfl | hv
  ·exact IH y (List.mem_cons_self ..) (hok y (List.mem_cons_self ..))
  exact ih (fun z hz => IH z (List.mem_cons_of_mem _ hz)) (fun z hz => hok z (List.mem_cons_of_mem _ hz)) v hv
theorem Qeq {l : List Bnd} (h : ∀ b ∈ l, vsnd b.v = true) : ∀ (ks : List Ex), (∀ y ∈ ks, okX y = true) -> ∀ v ∈ evL l ks, vsnd v = true
 | [], _, v, hv => by rw [evL] at hv; cases hv
 | y :: t, ho, v, hv => by
  rw [evL] at hv
  rcases List.mem_cons.1 hv with rfl | hv
  ·exact Qh9 h y (ho y (List.mem_cons_self ..))
  exact Qeq h t (fun z hz => ho z (List.mem_cons_of_mem _ hz)) v hv
theorem Qav {v : Val} (h : vsnd v = true) : v.text.size <= 9223372036854775807 := by
 obtain ⟨k, n, s, t, m⟩ := v
 show t.size <= _
 by_cases h1 : k = 1
 ·subst h1; rw [(Qou h).1]; decide
 by_cases h2 : k = 2
 ·subst h2; have := (Qfi h).2.2.2.1; omega
 rw [Qg9 ⟨h1, h2⟩ h]; decide
def A3 (w : World) (b : Nat) (x y z : Val) : Prop := w.cell? ⟨b, 0, none⟩ = some (.int .i64 (x).kind) /\ w.cell? ⟨b, 1, none⟩ = some (.int .i64 (x).n) /\ w.cell? ⟨b, 2, none⟩ = some (.int .i64 (x).scale) /\ w.cell? ⟨b, 3, none⟩ = some (.string (x).text) /\ w.cell? ⟨b, 4, none⟩ = some (.int .i64 (x).num) /\ w.cell? ⟨b, 5, none⟩ = some (.int .i64 (y).kind) /\ w.cell? ⟨b, 6, none⟩ = some (.int .i64 (y).n) /\ w.cell? ⟨b, 7, none⟩ = some (.int .i64 (y).scale) /\ w.cell? ⟨b, 8, none⟩ = some (.string (y).text) /\ w.cell? ⟨b, 9, none⟩ = some (.int .i64 (y).num) /\ w.cell? ⟨b, 10, none⟩ = some (.int .i64 (z).kind) /\ w.cell? ⟨b, 11, none⟩ = some (.int .i64 (z).n) /\ w.cell? ⟨b, 12, none⟩ = some (.int .i64 (z).scale) /\ w.cell? ⟨b, 13, none⟩ = some (.string (z).text) /\ w.cell? ⟨b, 14, none⟩ = some (.int .i64 (z).num)
def F3 (w : World) (b : Nat) : Prop := w.frozen? ⟨b, 0, none⟩ = false /\ w.frozen? ⟨b, 1, none⟩ = false /\ w.frozen? ⟨b, 2, none⟩ = false /\ w.frozen? ⟨b, 3, none⟩ = false /\ w.frozen? ⟨b, 4, none⟩ = false /\ w.frozen? ⟨b, 5, none⟩ = false /\ w.frozen? ⟨b, 6, none⟩ = false /\ w.frozen? ⟨b, 7, none⟩ = false /\ w.frozen? ⟨b, 8, none⟩ = false /\ w.frozen? ⟨b, 9, none⟩ = false /\ w.frozen? ⟨b, 10, none⟩ = false /\ w.frozen? ⟨b, 11, none⟩ = false /\ w.frozen? ⟨b, 12, none⟩ = false /\ w.frozen? ⟨b, 13, none⟩ = false /\ w.frozen? ⟨b, 14, none⟩ = false
def Of3 (w : World) (b : Nat) (r : List Val) : Prop := b < w.heap.size /\ A3 w b (g3 r 0) (g3 r 1) (g3 r 2) /\ F3 w b
theorem Of3.keep {w w' : World} {b : Nat} {r : List Val} (h : Of3 w b r) (hb : Bel w w') : Of3 w' b r := by
 obtain ⟨h0, h1, h2⟩ := h
 refine ⟨lL h0 hb.size, ?_, ?_⟩
 ·simp only [A3, hb.cells _ _ h0] at h1 ⊢; exact h1
 simp only [F3, hb.frozens _ _ h0] at h2 ⊢; exact h2
theorem Of3.at {w : World} {b q : Nat} {r : List Val} (h : Of3 w b r) (hq : q < 3) : (w.cell? ⟨b, q * 5, none⟩ = some (.int .i64 (g3 r q).kind) /\ w.cell? ⟨b, q * 5 + 1, none⟩ = some (.int .i64 (g3 r q).n) /\ w.cell? ⟨b, q * 5 + 2, none⟩ = some (.int .i64 (g3 r q).scale) /\ w.cell? ⟨b, q * 5 + 3, none⟩ = some (.string (g3 r q).text) /\ w.cell? ⟨b, q * 5 + 4, none⟩ = some (.int .i64 (g3 r q).num)) /\
  (w.frozen? ⟨b, q * 5, none⟩ = false /\ w.frozen? ⟨b, q * 5 + 1, none⟩ = false /\ w.frozen? ⟨b, q * 5 + 2, none⟩ = false /\ w.frozen? ⟨b, q * 5 + 3, none⟩ = false /\ w.frozen? ⟨b, q * 5 + 4, none⟩ = false) := by
 obtain ⟨h0, h1, h2⟩ := h
 unfold A3 at h1
 unfold F3 at h2
 obtain ⟨a0, a1, a2, a3, a4, a5, a6, a7, a8, a9, a10, a11, a12, a13, a14⟩ := h1
 obtain ⟨f0, f1, f2, f3, f4, f5, f6, f7, f8, f9, f10, f11, f12, f13, f14⟩ := h2
 rcases (by omega : q = 0 \/ q = 1 \/ q = 2) with rfl | rfl | rfl
 ·exact ⟨⟨a0, a1, a2, a3, a4⟩, f0, f1, f2, f3, f4⟩
 ·exact ⟨⟨a5, a6, a7, a8, a9⟩, f5, f6, f7, f8, f9⟩
 exact ⟨⟨a10, a11, a12, a13, a14⟩, f10, f11, f12, f13, f14⟩
theorem Of3.put {w : World} {b q : Nat} {r : List Val} (h : Of3 w b r) (hr : r.length = q) (hq : q < 3) (y : Val) : Of3 (((((w.setCell ⟨b, q * 5, none⟩ (.int .i64 y.kind)).setCell ⟨b, q * 5 + 1, none⟩ (.int .i64 y.n)).setCell ⟨b, q * 5 + 2, none⟩ (.int .i64 y.scale)).setCell ⟨b, q * 5 + 3, none⟩ (.string y.text)).setCell ⟨b, q * 5 + 4, none⟩ (.int .i64 y.num)) b (r ++ [y]) := by
 obtain ⟨h0, h1, h2⟩ := h
 unfold A3 at h1
 unfold F3 at h2
 obtain ⟨a0, a1, a2, a3, a4, a5, a6, a7, a8, a9, a10, a11, a12, a13, a14⟩ := h1
 obtain ⟨f0, f1, f2, f3, f4, f5, f6, f7, f8, f9, f10, f11, f12, f13, f14⟩ := h2
 refine ⟨by simpa [World.setCell] using h0, ?_, ?_⟩
 ·rcases (by omega : q = 0 \/ q = 1 \/ q = 2) with rfl | rfl | rfl
  ·obtain rfl := List.eq_nil_of_length_eq_zero hr
   simp only [g3, List.getD_nil] at a0 a1 a2 a3 a4 a5 a6 a7 a8 a9 a10 a11 a12 a13 a14
   simp [A3, g3, go_sem, a0, a1, a2, a3, a4, a5, a6, a7, a8, a9, a10, a11, a12, a13, a14]
  ·match r, hr with
   | [r0], _ =>
    simp [g3] at a0 a1 a2 a3 a4 a5 a6 a7 a8 a9 a10 a11 a12 a13 a14
    simp [A3, g3, go_sem, a0, a1, a2, a3, a4, a5, a6, a7, a8, a9, a10, a11, a12, a13, a14]
  match r, hr with
  | [r0, r1], _ =>
   simp [g3] at a0 a1 a2 a3 a4 a5 a6 a7 a8 a9 a10 a11 a12 a13 a14
   simp [A3, g3, go_sem, a0, a1, a2, a3, a4, a5, a6, a7, a8, a9, a10, a11, a12, a13, a14]
 simp [F3, go_sem, f0, f1, f2, f3, f4, f5, f6, f7, f8, f9, f10, f11, f12, f13, f14]
theorem Of3.far {w : World} {b : Nat} {r : List Val} (h : Of3 w b r) {q : Addr} (hp : b ≠ q.block) (x : Value) : Of3 (w.setCell q x) b r := by
 have hc : ∀ o, (w.setCell q x).cell? ⟨b, o, none⟩ = w.cell? ⟨b, o, none⟩ := fun o => World.cell?_setCell_far w q ⟨b, o, none⟩ x (fun e => hp e.symm)
 have hf : ∀ o, (w.setCell q x).frozen? ⟨b, o, none⟩ = w.frozen? ⟨b, o, none⟩ := fun o => by simp [go_sem]
 obtain ⟨h0, h1, h2⟩ := h
 refine ⟨by simpa [World.setCell] using h0, ?_, ?_⟩
 ·simp only [A3, hc] at h1 ⊢; exact h1
 simp only [F3, hf] at h2 ⊢; exact h2
structure Ev3 (w : World) (N : Nat) (o : Int) (v : Val) (nm : ByteArray) (A : Option Addr) (n c : Nat) (r : List Val) : Prop where
 box : Qab w N o v nm A n c
 res : Slot w (N + 1) zero
 of : Of3 w (N + 1 + 1) r
theorem Ev3.keep {w w' : World} {N : Nat} {o : Int} {v : Val} {nm : ByteArray} {A : Option Addr} {n c : Nat} {r : List Val} (h : Ev3 w N o v nm A n c r) (hb : Bel w w') : Ev3 w' N o v nm A n c r := ⟨h.box.keep hb, h.res.keep hb, h.of.keep hb⟩
theorem Qc0 {w : World} {b : Nat} {o : Int} {v : Val} {nm : ByteArray} {A : Option Addr} {n c : Nat} (h : Qab w b o v nm A n c) {q : Addr} (hp : b ≠ q.block) (x : Value) : Qab (w.setCell q x) b o v nm A n c := by
 have hc : ∀ o, (w.setCell q x).cell? ⟨b, o, none⟩ = w.cell? ⟨b, o, none⟩ := fun o => World.cell?_setCell_far w q ⟨b, o, none⟩ x (fun e => hp e.symm)
 have hf : ∀ o, (w.setCell q x).frozen? ⟨b, o, none⟩ = w.frozen? ⟨b, o, none⟩ := fun o => by simp [go_sem]
 obtain ⟨h0, h1, h2⟩ := h
 refine ⟨by simpa [World.setCell] using h0, h1.same hc, ?_⟩
 simp only [hf]
 exact h2
theorem Ev3.put {w : World} {N q : Nat} {o : Int} {v : Val} {nm : ByteArray} {A : Option Addr} {n c : Nat} {r : List Val} (h : Ev3 w N o v nm A n c r) (hr : r.length = q) (hq : q < 3) (y : Val) : Ev3 (((((w.setCell ⟨N + 1 + 1, q * 5, none⟩ (.int .i64 y.kind)).setCell ⟨N + 1 + 1, q * 5 + 1, none⟩ (.int .i64 y.n)).setCell ⟨N + 1 + 1, q * 5 + 2, none⟩ (.int .i64 y.scale)).setCell ⟨N + 1 + 1, q * 5 + 3, none⟩ (.string y.text)).setCell ⟨N + 1 + 1, q * 5 + 4, none⟩ (.int .i64 y.num)) N o v nm A n c (r ++ [y]) := by
 have n1 : N ≠ N + 1 + 1 := by omega
 have n2 : ¬ N + 1 = N + 1 + 1 := by omega
 exact ⟨Qc0 (Qc0 (Qc0 (Qc0 (Qc0 h.box n1 _) n1 _) n1 _) n1 _) n1 _, Qaz (Qaz (Qaz (Qaz (Qaz h.res n2) n2) n2) n2) n2, h.of.put hr hq y⟩
def EvC (l : List Bnd) (x : Ex) : Prop := ∀ (w : World) (A : Option Addr) (c : Nat) (AL : Option Addr) (cL : Nat), okX x = true -> bdsX l x = true -> Bnds w AL l -> Lie (fun _ => True) w A x.ks ->
 Calls Tryz.prog 27 #[exV x.op x.v (Qaa x.nm) A x.ks.length c, .slice AL l.length cL] w fun r w' => r = .returned (evX l x).val /\ Bel w w'
end Go.Proofs.YtjckpkamhdbcnaaGreatDoor
