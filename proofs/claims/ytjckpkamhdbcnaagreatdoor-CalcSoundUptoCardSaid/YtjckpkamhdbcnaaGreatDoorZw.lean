import Derived.Test.YtjckpkamhdbcnaaGreatDoorZt
import Derived.Test.YtjckpkamhdbcnaaGreatDoorZv
import Derived.Shelf.Abstract
namespace Go.Proofs.YtjckpkamhdbcnaaGreatDoor
set_option maxRecDepth 100000
set_option maxHeartbeats 64000000
set_option linter.unusedSimpArgs false
set_option linter.unusedVariables false
open Go.RowKit Go.Lib
mutual
def nmsX : Ex -> List ByteArray
 | .mk o _ nm ks => (if o = 2 then [Qaa nm] else []) ++ nmsL ks
def nmsL : List Ex -> List ByteArray
 | [] => []
 | x :: t => nmsX x ++ nmsL t
end
theorem Qh2 : ∀ (l : List Ex) (q : Nat) (y : Ex), l[q]? = some y -> nmsL (l.take (q + 1)) = nmsL (l.take q) ++ nmsX y
 | x :: l, 0, y, h => by
  obtain rfl : x = y := by simpa using h
  simp [nmsL]
 | x :: l, q + 1, y, h => by
  have := Qh2 l q y (by simpa using h)
  simp only [List.take_succ_cons, nmsL, this, List.append_assoc]
mutual
theorem Qg7 : ∀ x : Ex, (nmsX x).length <= szX x
 | .mk o v nm ks => by
  have := Qko ks
  unfold nmsX szX
  rw [lA]
  split
  ·rw [List.length_singleton]; omega
  rw [List.length_nil]; omega
theorem Qko : ∀ l : List Ex, (nmsL l).length <= szL l
 | [] => by simp [nmsL]
 | x :: t => by
  have h1 := Qg7 x
  have h2 := Qko t
  unfold nmsL szL
  rw [lA]
  omega
end
theorem Quk (l : List Ex) (q : Nat) : (nmsL (l.take q)).length <= (nmsL l).length := by
 have e : ∀ (a b : List Ex), nmsL (a ++ b) = nmsL a ++ nmsL b := by
  intro a b
  induction a with
  | nil => simp [nmsL]
  | cons x a ih => simp only [List.cons_append, nmsL, ih, List.append_assoc]
 have h := e (l.take q) (l.drop q)
 rw [List.take_append_drop] at h
 rw [h, lA]
 omega
theorem Bag.but {b : Nat} {u w w' : World} {row : Option Nat} (h : Bag b u w) (hb : BelBut w w' row) (hr : ∀ k, row = some k -> u.heap.size <= k) : Bag b u w' :=
 ⟨hb.os.trans h.os, hb.tape.trans h.tape, hb.output.trans h.output, Nat.le_trans h.size hb.size, fun k hk hkb => (hb.block k (lL hk h.size) (fun e => by have := hr k e.symm; omega)).trans (h.block k hk hkb)⟩
structure NmAt (W : World) (C F : Nat) (w : World) (v : Value) (xs : List ByteArray) : Prop where
 hC : C < W.heap.size
 hF : F < W.heap.size
 ne : C ≠ F
 fn : W.cell? ⟨F, 0, none⟩ = some (.func (.func 47) #[] #[.pointer (some ⟨C, 0, none⟩), .pointer (some ⟨F, 0, none⟩)])
 bag : Bag C W w
 cell : w.cell? ⟨C, 0, none⟩ = some v
 frz : w.frozen? ⟨C, 0, none⟩ = false
 own : OwnT w W.heap.size v xs
theorem NmAt.keep {W w w' : World} {C F : Nat} {v : Value} {xs : List ByteArray} (h : NmAt W C F w v xs) (hb : Bel w w') : NmAt W C F w' v xs := by
 have hlt := lL h.hC h.bag.size
 exact ⟨h.hC, h.hF, h.ne, h.fn, h.bag.trans (Bag.of hb), by rw [(Bag.of (b := C + 1) hb).cell (p := ⟨C, 0, none⟩) hlt (by show C ≠ C + 1; omega)]; exact h.cell, by rw [(Bag.of (b := C + 1) hb).frozen (p := ⟨C, 0, none⟩) hlt (by show C ≠ C + 1; omega)]; exact h.frz, h.own.keep hb⟩
theorem NmAt.fcell {W w : World} {C F : Nat} {v : Value} {xs : List ByteArray} (h : NmAt W C F w v xs) : w.cell? ⟨F, 0, none⟩ = some (.func (.func 47) #[] #[.pointer (some ⟨C, 0, none⟩), .pointer (some ⟨F, 0, none⟩)]) := by
 rw [h.bag.cell (p := ⟨F, 0, none⟩) h.hF (fun e => h.ne e.symm)]
 exact h.fn
theorem NmAt.lt {W w : World} {C F : Nat} {v : Value} {xs : List ByteArray} (h : NmAt W C F w v xs) : C < w.heap.size /\ F < w.heap.size := ⟨lL h.hC h.bag.size, lL h.hF h.bag.size⟩
structure NmUp (W : World) (C F : Nat) (w : World) (v v' : Value) (xs : List ByteArray) : Prop where
 hC : C < W.heap.size
 hF : F < W.heap.size
 ne : C ≠ F
 fn : W.cell? ⟨F, 0, none⟩ = some (.func (.func 47) #[] #[.pointer (some ⟨C, 0, none⟩), .pointer (some ⟨F, 0, none⟩)])
 bag : Bag C W w
 cell : w.cell? ⟨C, 0, none⟩ = some v
 frz : w.frozen? ⟨C, 0, none⟩ = false
 own : OwnT w W.heap.size v' xs
theorem NmUp.put {W w : World} {C F : Nat} {v v' : Value} {xs : List ByteArray} (h : NmUp W C F w v v' xs) : NmAt W C F (w.setCell ⟨C, 0, none⟩ v') v' xs := by
 have hlt := lL h.hC h.bag.size
 have hc := h.cell
 have hf := h.frz
 have hg : w.grownBy (w.setCell ⟨C, 0, none⟩ v') (some C) := ⟨rfl, rfl, rfl, by simp [World.setCell], fun k hk hne => Below.heap_setCell _ _ _ _ (fun e => hne (by rw [e]))⟩
 refine ⟨h.hC, h.hF, h.ne, h.fn, h.bag.setCell rfl _, by simp [go_sem, hc, hlt], by simp [go_sem, hf, hlt], World.ownsRow.kept h.own hg ?_⟩
 cases ho : v'.ownBlock with
 | none => exact .inl rfl
 | some k =>
  refine .inr fun e => ?_
  have := (h.own.lt k ho).1
  have := h.hC
  have := Option.some.inj e
  omega
theorem Qwe {W w : World} {C F N : Nat} {v : Value} {xs : List ByteArray} (h : NmAt W C F w v xs) (s : ByteArray) {A : Option Addr} {c : Nat} (hy : Strs w A [s]) (hA : A = none -> c = 0) (hn : (xs.length + 1) * 16 <= 140737488355328) (hN : v.ownBlock ≠ some N) (hNlt : N < w.heap.size) (ty : TypeId) :
  ∃ v' w', (Builtin.append_ #[49, 49] ty #[v, .slice A 1 c]).run Tryz.prog w = .ok v' w' /\ (NmUp W C F w' v v' (xs ++ [s]) /\ (∀ o, w'.cell? ⟨N, o, none⟩ = w.cell? ⟨N, o, none⟩) /\ N < w'.heap.size) := by
 obtain ⟨i0, hi, hz0, hz1, hz2⟩ := infoT'
 obtain ⟨v', w', hr, h1, h2, h3⟩ := Qik (P := Tryz.prog) w W.heap.size 49 ty 9 i0 _ 1 16 Tryz.underlying49 hi hz0 hz1 hz2 rfl (by omega) h.own (m := 1) (c := c) hy (show (Go.Proofs.YtjckpkamhdbcnaaGreatDoor.strs [s]).length = 1 * 1 by simp [Go.Proofs.YtjckpkamhdbcnaaGreatDoor.strs]) hA (Qq8 [s]) (by simp only [maxLen]; omega) (by omega) h.bag.size
 have hlt := lL h.hC h.bag.size
 have hCr : some C ≠ v.ownBlock := fun e => by
  have := (h.own.lt C e.symm).1
  have := h.hC
  omega
 refine ⟨v', w', hr, ⟨h.hC, h.hF, h.ne, h.fn, h.bag.but h2 (fun k hk => (h.own.lt k hk).1), ?_, ?_, ?_⟩, fun o => World.cell?_of_block (w := w) (h2.block N hNlt (fun e => hN e.symm)), lL hNlt h2.size⟩
 ·rw [World.cell?_of_block (w := w) (a := ⟨C, 0, none⟩) (h2.block C hlt hCr)]; exact h.cell
 ·rw [World.frozen?_of_block (w := w) (a := ⟨C, 0, none⟩) (h2.block C hlt hCr)]; exact h.frz
 unfold OwnT
 rw [lA]
 simpa [Go.Proofs.YtjckpkamhdbcnaaGreatDoor.strs] using h1
def NmC (x : Ex) : Prop := ∀ (W w : World) (C F : Nat) (v : Value) (xs : List ByteArray) (A : Option Addr) (c : Nat), okX x = true -> (xs.length + (nmsX x).length) * 16 <= 140737488355328 -> NmAt W C F w v xs -> Lie (fun k => k ≠ C) W A x.ks ->
 Calls Tryz.prog 47 #[exV x.op x.v (Qaa x.nm) A x.ks.length c, .pointer (some ⟨C, 0, none⟩), .pointer (some ⟨F, 0, none⟩)] w fun r w' => r = .returned (.tuple #[]) /\ ∃ v', NmAt W C F w' v' (xs ++ nmsX x)
theorem Qh3 : ∀ args w, (callFunc 47 args).run Tryz.prog w = .ok (.enter 47 args) w := enters_of Tryz.func47 (by kernel_rfl) rfl
theorem Qul (x : Ex) (h2 : x.op = 2) : NmC x := by
 intro W w C F v xs A c ho hl hn hL
 obtain ⟨o, ⟨vk, vn, vs, vt, vm⟩, nm, ks⟩ := x
 obtain rfl : o = 2 := h2
 have hp := Qbt (show prtB 2 ⟨vk, vn, vs, vt, vm⟩ nm ks.length = true from by rw [okX, bA] at ho; exact ho.1)
 obtain rfl : ks = [] := List.eq_nil_of_length_eq_zero hp.2.2.1
 have hX : nmsX (.mk 2 ⟨vk, vn, vs, vt, vm⟩ nm []) = [Qaa nm] := by simp [nmsX, nmsL]
 rw [hX] at hl ⊢
 simp only [Ex.op, Ex.v, Ex.nm, Ex.ks, List.length_nil, List.length_singleton] at hl ⊢
 generalize Qaa nm = bn
 have HN := Hd hn
 have HL := Hd hl
 clear hX hp ho hL hl hn
 go_enter Tryz.func47, Tryz.ntmps47
 go_upto_region 1 with fail
 refine uN ((Bel.refl w).alloc _) fun W1 hcc hf hz hb => ?_
 have T1 : Qab W1 w.heap.size 2 ⟨vk, vn, vs, vt, vm⟩ bn A 0 c := by simp [Qab, Qap, hcc, hf, hz, go_sem]
 clear hcc hf hz
 have hvN : v.ownBlock ≠ some w.heap.size := fun e => by have := (HN.out.own.lt _ e).2; omega
 have hCw := HN.out.lt.1
 generalize w.heap.size = N at T1 hvN hCw
 have HN1 := Hd (HN.out.keep hb)
 have HV := Hd hvN
 clear hb hvN
 have L1 := Hd T1
 obtain ⟨tz, ⟨t0, t1, t2, t3, t4, t5, t6, t7⟩, ⟨tf0, tf1, tf2, tf3, tf4, tf5, tf6, tf7⟩⟩ := T1
 simp only [Nat.zero_add] at t0 t1 t2 t3 t4 t5 t6 t7
 have c1 := HN1.out.cell
 have z1 := HN1.out.lt.1
 go_upto_region 3 with (at_builtin; refine Qeg (by rfl) (.tmp 9) (.tmp 12) _ rfl (Qwe (N := N) (HN1.out.keep ((Bel.refl _).alloc _)) bn (Qq9 [bn] rfl) (by simp) (by have := HL.out; omega) HV.out (by have := L1.out.1; simp only [World.alloc, Array.size_push]; omega) _) ?_; rintro v7 w7 ⟨u7, e7, n7⟩; obtain ⟨A7, m7, rfl, -, -⟩ := u7.own.strs; have U7 := Hd u7; have E7 := Hd (show ∀ o, w7.cell? ⟨N, o, none⟩ = W1.cell? ⟨N, o, none⟩ from fun o => (e7 o).trans (((Bel.refl W1).alloc _).cells _ _ L1.out.1)); have c7 := U7.out.cell; have f7 := U7.out.frz; clear u7 e7)
 have HN8 := Hd U7.out.put
 have hNC : N ≠ C := by omega
 refine Qdb (w7.setCell ⟨C, 0, none⟩ (.slice A7 (xs ++ [bn]).length m7)) (by rw [lA, List.length_singleton]) ?_
 have b7 : (w7.setCell ⟨C, 0, none⟩ (.slice A7 (xs ++ [bn]).length m7)).cell? ⟨N, 7, none⟩ = some (.slice A 0 c) := by
  rw [World.cell?_setCell_far w7 ⟨C, 0, none⟩ ⟨N, 7, none⟩ _ (fun e => hNC e.symm), E7.out]
  exact t7
 have n8 : N < (w7.setCell ⟨C, 0, none⟩ (.slice A7 (xs ++ [bn]).length m7)).heap.size := by simpa [World.setCell] using n7
 clear tz t0 t1 t2 t3 t4 t5 t6 t7 tf0 tf1 tf2 tf3 tf4 tf5 tf6 tf7 c1 z1 c7 f7 n7
 generalize w7.setCell ⟨C, 0, none⟩ (.slice A7 (xs ++ [bn]).length m7) = W8 at HN8 b7 n8 ⊢
 go_wp2_with fail
 refine wp_loop_rounds 1 ?_
 rw [rounds_succ]
 go_wp2_with fail
 first
  | go_end0
  | refine pR (results_none rfl _ _ _) rfl ?_
 exact ⟨rfl, _, HN8.out⟩
theorem Qum (x : Ex) (h2 : ¬ x.op = 2) (IH : ∀ y ∈ x.ks, NmC y) : NmC x := by
 intro W w C F v xs A c ho hl hn hL
 obtain ⟨o, ⟨vk, vn, vs, vt, vm⟩, nm, ks⟩ := x
 replace h2 : ¬ o = 2 := h2
 obtain ⟨hk3, hok⟩ := Qq7 ho
 have hX : nmsX (.mk o ⟨vk, vn, vs, vt, vm⟩ nm ks) = nmsL ks := by rw [nmsX, iN h2, List.nil_append]
 rw [hX] at hl ⊢
 simp only [Ex.op, Ex.v, Ex.nm, Ex.ks] at hl hL ⊢
 have HI := Hd fun (q : Nat) (y : Ex) (hy : ks[q]? = some y) => And.intro (IH y (List.mem_of_getElem? hy)) (hok y (List.mem_of_getElem? hy))
 generalize Qaa nm = bn
 obtain ⟨n, hn'⟩ : ∃ n, n = ks.length := ⟨_, rfl⟩
 rw [← hn'] at hk3 ⊢
 have Hn := Hd hn'
 have HN := Hd hn
 have HL := Hd hl
 have HLL := Hd hL
 have hni : (n : Int) <= 3 := by omega
 have h2b : (o == 2) = false := by simp [h2]
 clear hX ho hL hl hn hn' IH hok
 go_enter Tryz.func47, Tryz.ntmps47
 go_upto_region 1 with fail
 refine uN ((Bel.refl w).alloc _) fun W1 hcc hf hz hb => ?_
 have T1 : Qab W1 w.heap.size o ⟨vk, vn, vs, vt, vm⟩ bn A n c := by simp [Qab, Qap, hcc, hf, hz, go_sem]
 clear hcc hf hz
 generalize w.heap.size = N at T1
 have HN1 := Hd (HN.out.keep hb)
 clear hb
 obtain ⟨tz, ⟨t0, t1, t2, t3, t4, t5, t6, t7⟩, ⟨tf0, tf1, tf2, tf3, tf4, tf5, tf6, tf7⟩⟩ := T1
 simp only [Nat.zero_add] at t0 t1 t2 t3 t4 t5 t6 t7
 go_upto_region 4 with fail
 clear tz t0 t1 t2 t3 t4 t5 t6 t7 tf0 tf1 tf2 tf3 tf4 tf5 tf6 tf7
 go_loopg [17] (n + 1) (fun g iv wr => ∃ (q : Nat) (v : Value), iv = .int .i64 q /\ q <= n /\ Hid (n + 1 - q <= g) /\ Hid (NmAt W C F wr v (xs ++ nmsL (ks.take q))))
 case atStart => exact ⟨0, v, rfl, Nat.zero_le _, Hd (by omega), Hd (by rw [List.take_zero, nmsL, List.append_nil]; exact HN1.out)⟩
 case round =>
  obtain ⟨q, v', rfl, hq, hg, hW⟩ := hrel
  rcases Nat.lt_or_ge q n with hlt | hge
  ·have hlti : (q : Int) < n := by omega
   have l0 : (0 : Int) <= (q : Int) := by omega
   have wq : IntKind.i64.wrap ((q : Int) + 1) = ((q + 1 : Nat) : Int) := by rw [IntKind.wrap_i64]; omega
   obtain ⟨y, hy⟩ : ∃ y, ks[q]? = some y := ⟨ks[q]'(by have := Hn.out; omega), gE _⟩
   obtain ⟨B, off, hAA, hBC, hBlt, A', c', hE, hLy⟩ := (HLL.out.bag hW.out.bag (fun h => h rfl)).get hy
   obtain ⟨B', off', hAA', hBC', hBlt', A'', c'', hE', hLy'⟩ := HLL.out.get hy
   subst hAA
   cases hAA'
   have hsame : Qap wr B (off + q * 8) y.op y.v (Qaa y.nm) A'' y.ks.length c'' := hE'.same fun o => hW.out.bag.cell (p := ⟨B, o, none⟩) hBlt' hBC'
   obtain ⟨HC, hoy⟩ := HI.out q y hy
   have htk := Qh2 ks q y hy
   have hle := Quk ks (q + 1)
   obtain ⟨yo, ⟨yk, yn, ys, yt, ym⟩, ynm, yks⟩ := y
   simp only [Ex.op, Ex.v, Ex.nm, Ex.ks] at hsame
   obtain ⟨e0, e1, e2, e3, e4, e5, e6, e7⟩ := hsame
   go_upto_region 6 with fail
   refine uN (w0 := wr) (by exact Bel.y) fun W5 hcc hf hz hb5 => ?_
   have T5 : Qab W5 wr.heap.size yo ⟨yk, yn, ys, yt, ym⟩ (Qaa ynm) A'' yks.length c'' := by simp [Qab, Qap, hcc, hf, hz, go_sem]
   clear hcc hf hz e0 e1 e2 e3 e4 e5 e6 e7
   generalize wr.heap.size = Y at T5
   have HN5 := Hd (hW.out.keep hb5)
   have CK := Hd (HC W W5 C F v' (xs ++ nmsL (ks.take q)) A'' c'' hoy (by rw [htk, lA] at hle; have := HL.out; rw [lA]; omega) HN5.out hLy')
   rw [List.append_assoc, ← htk] at CK
   simp only [Ex.op, Ex.v, Ex.nm, Ex.ks] at CK
   clear hb5 hE hLy hE' hLy' hy HC hoy htk hle hBlt hBlt' hBC hBC'
   have fc := HN5.out.fcell
   have flt := HN5.out.lt.2
   obtain ⟨tz, t0, t1, t2, t3, t4, t5, t6, t7⟩ := T5.u
   have eg := Qh3
   go_wp2_with (go_at_fn 47; (with_reducible refine Calls.mono CK.out ?_); rintro ee V6 ⟨rfl, v6, hn6⟩; have HN6 := Hd hn6; clear hn6)
   go_roundg (n + 1 - (q + 1))
   case measure => have := hg.out; omega
   case rel => exact ⟨q + 1, v6, rfl, hlt, Hd (Nat.le_refl _), HN6⟩
  obtain rfl : q = n := by omega
  have htk : ks.take q = ks := List.take_of_length_le (by have := Hn.out; omega)
  rw [htk] at hW
  go_wp2_with fail
  first
   | go_end0
   | refine pR (results_none rfl _ _ _) rfl ?_
  exact ⟨rfl, _, hW.out⟩
theorem Qwf : ∀ x : Ex, NmC x := Ex.ind fun op v nm ks IH => by
 by_cases h : op = 2
 ·exact Qul (.mk op v nm ks) h
 exact Qum (.mk op v nm ks) h IH
def nmeX (x : Ex) : List ByteArray := if sndX x = true then sortc (nmsX x) else []
def NmOut (l : List ByteArray) (w : World) (r : Ending) (w' : World) : Prop := ∃ A' c', r = .returned (.slice A' l.length c') /\ Strs w' A' l /\ l.length <= c' /\ Bel w w'
def cutW (w : World) (g : Nat) : World := { w with heap := w.heap.extract 0 g }
theorem Qcx {w : World} {g : Nat} (hg : g <= w.heap.size) : (cutW w g).heap.size = g := by
 simp [cutW]
 omega
theorem Qoi {w : World} {g k : Nat} (hg : g <= w.heap.size) (hk : k < g) : (cutW w g).heap[k]? = w.heap[k]? := by
 simp [cutW, Array.getElem?_extract]
 omega
theorem Qoj {w : World} {g : Nat} (hg : g <= w.heap.size) : Bel (cutW w g) w := ⟨rfl, rfl, rfl, by rw [Qcx hg]; exact hg, fun k hk => (Qoi hg (by rwa [Qcx hg] at hk)).symm⟩
theorem Qrd {w0 w : World} {g : Nat} (h : Bel w0 w) (h0 : w0.heap.size <= g) (hg : g <= w.heap.size) : Bel w0 (cutW w g) := ⟨h.os, h.tape, h.output, by rw [Qcx hg]; exact h0, fun k hk => (Qoi hg (lL hk h0)).trans (h.block k hk)⟩
theorem Qok (x : Ex) (A : Option Addr) (c : Nat) (w : World) (hsm : smX x) (hL : Lie (fun _ => True) w A x.ks) :
  Calls Tryz.prog 26 #[exV x.op x.v (Qaa x.nm) A x.ks.length c] w (NmOut (nmeX x) w) := by
 have CS := Hd fun W (hW : Bel w W) => Qdc x (fun _ => True) A c W hsm (hL.keep hW)
 have HL := Hd hL
 have hsz : sndX x = true -> okX x = true /\ (nmsX x).length <= 4096 := fun h => by
  unfold sndX at h
  rw [bA, bA, decide_eq_true_eq, decide_eq_true_eq] at h
  have := Qg7 x
  exact ⟨h.1, by omega⟩
 have CN := Hd fun W X C F v A c => Qwf x W X C F v [] A c
 have hO : nmeX x = if sndX x = true then sortc (nmsX x) else [] := rfl
 obtain ⟨xs, hxs⟩ : ∃ xs, xs = nmsX x := ⟨_, rfl⟩
 rw [← hxs] at hsz CN hO
 rw [hO]
 obtain ⟨o, ⟨vk, vn, vs, vt, vm⟩, nm, ks⟩ := x
 simp only [Ex.op, Ex.v, Ex.nm, Ex.ks] at CS CN HL ⊢
 generalize okX (.mk o ⟨vk, vn, vs, vt, vm⟩ nm ks) = ok at CN hsz
 generalize sndX (.mk o ⟨vk, vn, vs, vt, vm⟩ nm ks) = sn at CS hsz ⊢
 obtain ⟨bn, hbn⟩ : ∃ b, b = Qaa nm := ⟨_, rfl⟩
 rw [← hbn] at CS CN ⊢
 obtain ⟨n, hn'⟩ : ∃ n, n = ks.length := ⟨_, rfl⟩
 rw [← hn'] at CS CN ⊢
 clear hsm hO hxs hL hbn hn'
 cases sn with
 | false =>
  rw [iN (show ¬ (false = true) from by decide)]
  go_enter Tryz.func26, Tryz.ntmps26
  go_upto_region 1 with fail
  refine uN ((Bel.refl w).alloc _) fun W1 hcc hf hz hb => ?_
  have T1 : Qab W1 w.heap.size o ⟨vk, vn, vs, vt, vm⟩ bn A n c := by simp [Qab, Qap, hcc, hf, hz, go_sem]
  clear hcc hf hz
  have hA1 := Hd (HL.out.keep hb)
  have wN := Hd (show w.heap.size < W1.heap.size from T1.1)
  generalize w.heap.size = N at T1 wN
  have L1 := Hd T1
  obtain ⟨tz, t0, t1, t2, t3, t4, t5, t6, t7⟩ := T1.u
  have HB0 := Hd hb
  clear hb
  go_wp2_with (go_at_call 23; (with_reducible refine Calls.mono (CS.out _ HB0.out) ?_); rintro ee V1 ⟨rfl, hb1⟩; have HB1 := Hd hb1; clear hb1)
  go_ret
  exact ⟨none, 0, rfl, Strs.nil, Nat.le_refl _, HB0.out.trans HB1.out⟩
 | true =>
  obtain ⟨rfl, hlx⟩ := hsz rfl
  rw [iP rfl]
  go_enter Tryz.func26, Tryz.ntmps26
  go_upto_region 1 with fail
  refine uN ((Bel.refl w).alloc _) fun W1 hcc hf hz hb => ?_
  have T1 : Qab W1 w.heap.size o ⟨vk, vn, vs, vt, vm⟩ bn A n c := by simp [Qab, Qap, hcc, hf, hz, go_sem]
  clear hcc hf hz
  have hA1 := Hd (HL.out.keep hb)
  have wN := Hd (show w.heap.size < W1.heap.size from T1.1)
  generalize w.heap.size = N at T1 wN
  have L1 := Hd T1
  obtain ⟨tz, t0, t1, t2, t3, t4, t5, t6, t7⟩ := T1.u
  have HB0 := Hd hb
  clear hb
  go_upto_region 3 with (go_at_call 23; (with_reducible refine Calls.mono (CS.out _ HB0.out) ?_); rintro ee V1 ⟨rfl, hb1⟩; have HB1 := Hd hb1; clear hb1)
  clear tz t0 t1 t2 t3 t4 t5 t6 t7
  go_upto_region 6 with fail
  refine uN (w0 := V1) (by exact Bel.y) fun W6 hcc hf hz hb6 => ?_
  have T6 : (V1.heap.size + 1 < W6.heap.size /\ W6.cell? ⟨V1.heap.size, 0, none⟩ = some (.slice none 0 0) /\ W6.frozen? ⟨V1.heap.size, 0, none⟩ = false /\ W6.cell? ⟨V1.heap.size + 1, 0, none⟩ = some (.func (.func 47) #[] #[.pointer (some ⟨V1.heap.size, 0, none⟩), .pointer (some ⟨V1.heap.size + 1, 0, none⟩)])) := by simp [hcc, hf, hz, go_sem]
  clear hcc hf hz
  have hCV := Hd (show w.heap.size <= V1.heap.size from (HB0.out.trans HB1.out).size)
  have HB6 := Hd ((HB0.out.trans HB1.out).trans hb6)
  obtain ⟨C, hC⟩ : ∃ C, C = V1.heap.size := ⟨_, rfl⟩
  obtain ⟨F, hF⟩ : ∃ F, F = C + 1 := ⟨_, rfl⟩
  have hN1C : N < C := by have := (HB1.out).size; have := wN.out; have := L1.out.1; omega
  have L6 := (L1.out.keep HB1.out).keep hb6
  rw [← hC] at T6 hCV ⊢
  rw [← hF] at T6 ⊢
  have hA6 : Lie (fun k => k ≠ C) W6 A ks := (HL.out.weak (Q := fun k => k ≠ C) fun b _ hb => by have := hCV.out; omega).keep HB6.out
  have hN6 : NmAt W6 C F W6 (.slice none 0 0) [] := ⟨by omega, T6.1, by omega, T6.2.2.2, Bag.refl _ _, T6.2.1, T6.2.2.1, OwnT.nil _ _⟩
  have CK := Hd (CN.out W6 W6 C F (.slice none 0 0) A c trivial (by simp only [List.length_nil]; omega) hN6 hA6)
  rw [List.nil_append] at CK
  have hCw := Hd (show w.heap.size <= W6.heap.size from HB6.out.size)
  have c6 := T6.2.1
  have f6 := T6.2.2.2
  have z6 := T6.1
  have zc6 : C < W6.heap.size := by omega
  clear hb6 hA6 hN6 T6 hF hC CN CS HB1 HB0 hA1 hsz
  obtain ⟨tz, t0, t1, t2, t3, t4, t5, t6, t7⟩ := L6.u
  have eg := Qh3
  go_upto_region 7 with (go_at_fn 47; (with_reducible refine Calls.mono CK.out ?_); rintro ee V7 ⟨rfl, v7, hn7⟩; have HN7 := Hd hn7; clear hn7)
  clear tz t0 t1 t2 t3 t4 t5 t6 t7 c6 f6 z6 zc6
  have hBw := Hd (HN7.out.bag.bel HB6.out hCV.out)
  have c7 := HN7.out.cell
  have z7 := HN7.out.lt.1
  have hCW6 := Hd HN7.out.hC
  have HC := Hd (Qh1 xs)
  by_cases hz : xs = []
  ·have hr : sortc xs = [] := by rw [hz]; exact Qog fun s h => by simpa using (Qft [] s).1 h
   obtain ⟨A', c', rfl, -, hc⟩ := HN7.out.own.strs
   have HR := Hd hr
   have hx0 : xs.length = 0 := by rw [hz]; rfl
   rw [hx0] at c7
   have S1 := Hd fun w => Any.slices_Sort_string_none Tryz.sortT A' c' w
   have S2 := Hd fun w => AnyG.slices_Compact_string_empty Tryz.compT A' c' w
   change Hid (∀ w, Calls Tryz.prog 48 _ _ _) at S1
   change Hid (∀ w, Calls Tryz.prog 49 _ _ _) at S2
   clear hz hr hx0 hc HN7
   go_wp2_with (first
    | (go_at_call 48; refine (S1.out _).mono ?_; rintro e w1 ⟨rfl, rfl⟩)
    | (go_at_call 49; refine (S2.out _).mono ?_; rintro e w2 ⟨rfl, rfl⟩))
   go_ret
   rw [HR.out]
   exact ⟨A', c', rfl, Strs.nil, Nat.zero_le _, hBw.out⟩
  obtain ⟨g, cap, rfl, hg0, hg, hcap, hcm, hat⟩ := HN7.out.own.holds hz
  have HG := Hd (And.intro hg0 (And.intro hg (And.intro hcap hcm)))
  have HK := Hd (show sortc xs = unb (compact ((bys xs).mergeSort fun x y => decide (x <= y))) from rfl)
  have HS := Hd (show ((bys xs).mergeSort fun x y => decide (x <= y)).length = xs.length from by simp [bys])
  have S1 := Hd (Qrb (w0 := cutW V7 g) (cap := cap) (Qoj (by omega)) (by rw [Qcx (by omega)]; omega) hg (Qoh hat) (by omega))
  have S2 := Hd fun w1 (h0 : Bel w w1) hg h => Qrc (cap := cap) (z := (bys xs).mergeSort fun x y => decide (x <= y)) h0 (show w.heap.size <= g from by have := hCw.out; omega) hg h (by have := HS.out; omega) (by have := HS.out; omega)
  rw [HS.out, ← HK.out] at S2
  have KC := Hd (show ∀ w1, Bel (cutW V7 g) w1 -> w1.cell? ⟨C, 0, none⟩ = some (.slice (some ⟨g, 0, none⟩) xs.length cap) /\ C < w1.heap.size /\ Bel w w1 from fun w1 h1 => by
   have hCg : C < (cutW V7 g).heap.size := by rw [Qcx (by omega)]; have := hCW6.out; omega
   refine ⟨?_, lL hCg h1.size, (Qrd hBw.out (by have := hCw.out; omega) (by omega)).trans h1⟩
   rw [h1.cells _ _ hCg, ← (Qoj (w := V7) (g := g) (by omega)).cells _ _ hCg]
   exact c7)
  clear HK HS hz hat hg0 hg hcap hcm HN7
  go_wp2_with (first
   | (go_at_call 48; refine S1.out.mono ?_; rintro e w1 ⟨rfl, h1, h2, h3⟩; obtain ⟨c8, z8, b8⟩ := KC.out _ h3; have HH := Hd (And.intro h1 (And.intro h2 b8)); clear h1 h2 h3 c7 z7 b8)
   | (go_at_call 49; refine (S2.out _ HH.out.2.2 HH.out.2.1 HH.out.1).mono ?_; rintro e w2 ⟨rfl, h1, h2⟩))
  go_ret
  exact ⟨_, _, rfl, h1, Nat.le_trans HC.out HG.out.2.2.1, h2⟩
end Go.Proofs.YtjckpkamhdbcnaaGreatDoor
