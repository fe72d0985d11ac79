import Derived.Test.YtjckpkamhdbcnaaGreatDoorZbj
import Derived.Test.YtjckpkamhdbcnaaGreatDoorZx
import Derived.Deep.RegionHeld3
import Derived.Test.YtjckpkamhdbcnaaGreatDoorZd
namespace Go.Proofs.YtjckpkamhdbcnaaGreatDoor
set_option maxRecDepth 100000
set_option maxHeartbeats 64000000
set_option linter.unusedSimpArgs false
set_option linter.unusedVariables false
section
open Go.RowKit
attribute [local go_sem ↓] Qas Qau
theorem Qgi (p : Bnd -> Bool) : ∀ (l : List Bnd) (q : Nat) (x : Bnd), l[q]? = some x -> p x = true -> (∀ j y, j < q -> l[j]? = some y -> p y = false) -> l.find? p = some x
 | [], _, _, h, _, _ => by cases h
 | y :: l, 0, x, h, hp, _ => by
  obtain rfl : y = x := by simpa using h
  rw [List.find?_cons_of_pos hp]
 | y :: l, q + 1, x, h, hp, hn => by
  rw [List.find?_cons_of_neg (by rw [hn 0 y (Nat.succ_pos _) rfl]; decide)]
  exact Qgi p l q x (by simpa using h) hp fun j z hj hz => hn (j + 1) z (by omega) (by simpa using hz)
theorem Ql6 (p : Bnd -> Bool) (l : List Bnd) (h : ∀ j y, j < l.length -> l[j]? = some y -> p y = false) : l.find? p = none := by
 rw [List.find?_eq_none]
 intro y hy
 obtain ⟨j, hj⟩ := List.getElem?_of_mem hy
 rw [h j y (List.getElem?_eq_some_iff.1 hj).1 hj]
 decide
theorem Qgj (l : List Bnd) (AL : Option Addr) (cL : Nat) (s : ByteArray) (w : World) (hB : Bnds w AL l) (hln : l.length <= 9223372036854775807) :
  Calls Tryz.prog 57 #[.slice AL l.length cL, .string s] w fun e w' => e = .returned (.tuple #[(lookB l s).val, .bool (isB l s)]) /\ Bel w w' := by
 have HB := Hd hB
 clear hB
 have hli : (l.length : Int) <= 9223372036854775807 := by omega
 go_enter Tryz.func57, Tryz.ntmps57
 go_upto_region 2 with fail
 refine uN (w0 := w) (by exact Bel.y) fun W hcc hf hz hb => ?_
 have S := Hd (show Slot W w.heap.size zero from by simp [Slot, Qal, Qah, zero, hcc, hf, hz, go_sem])
 clear hcc hf hz
 have HNw := Hd (Nat.le_refl w.heap.size)
 generalize hNN : w.heap.size = N at S
 have HNN := Hd (Nat.le_of_eq hNN)
 clear hNN HNw
 have HW := Hd hb
 clear hb
 go_loopg [6] (l.length + 1) (fun g iv wr => ∃ q : Nat, iv = .int .i64 q /\ q <= l.length /\ Hid (l.length + 1 - q <= g) /\ Hid (∀ j y, j < q -> l[j]? = some y -> nmIs s y = false) /\ wr = W)
 case atStart => exact ⟨0, rfl, Nat.zero_le _, Hd (by omega), Hd (fun j y h => absurd h (Nat.not_lt_zero _)), rfl⟩
 case round =>
  obtain ⟨q, rfl, hq, hg, hA, rfl⟩ := hrel
  obtain ⟨s0, ⟨s1, s2, s3, s4, s5⟩, ⟨f1, f2, f3, f4, f5⟩⟩ := S.out
  simp only [Nat.zero_add] at s1 s2 s3 s4 s5
  rcases Nat.lt_or_ge q l.length with hlt | hge
  ·have hlti : (q : Int) < l.length := by omega
   have l0 : (0 : Int) <= (q : Int) := by omega
   have wq : IntKind.i64.wrap ((q : Int) + 1) = ((q + 1 : Nat) : Int) := by rw [IntKind.wrap_i64]; omega
   obtain ⟨x, hx⟩ : ∃ x, l[q]? = some x := ⟨_, gE hlt⟩
   obtain ⟨b, off, rfl, hlb, hc⟩ := (HB.out.keep HW.out) (by omega)
   have hat := hc q x hx
   have HX := Hd hx
   clear hc hx
   cases hp : nmIs s x with
   | true =>
    have L := Hd (Qgi (nmIs s) l q x HX.out hp hA.out)
    unfold nmIs at hp
    rw [← ByteArray.toList_eq, ← ByteArray.toList_eq] at hp
    obtain ⟨xn, xk, xm, xs, xt, xu⟩ := x
    obtain ⟨e0, e1, e2, e3, e4, e5⟩ := hat
    simp only at hp e0 e1 e2 e3 e4 e5
    clear HX
    go_wp2_with fail
    refine pR (v := .tuple #[.agg #[.int .i64 xk, .int .i64 xm, .int .i64 xs, .string xt, .int .i64 xu], .bool true]) (by simp [results, Tryz.results57, go_sem, s0, s1, s2, s3, s4, s5]; try rfl) rfl ⟨by unfold lookB isB; rw [L.out]; rfl, ?_⟩
    have h1 := HNN.out
    have h2 := HW.out
    exact Bel.y
   | false =>
    have HP := Hd hp
    unfold nmIs at hp
    rw [← ByteArray.toList_eq, ← ByteArray.toList_eq] at hp
    have KA := Hd (show ∀ j y, j < q + 1 -> l[j]? = some y -> nmIs s y = false from fun j y hj hy => by
     rcases Nat.lt_or_ge j q with h | h
     ·exact hA.out j y h hy
     obtain rfl : j = q := by omega
     rw [HX.out] at hy
     obtain rfl := Option.some.inj hy
     exact HP.out)
    obtain ⟨xn, xk, xm, xs, xt, xu⟩ := x
    obtain ⟨e0, e1, e2, e3, e4, e5⟩ := hat
    simp only at hp e0 e1 e2 e3 e4 e5
    clear HX HP
    go_wp2_with fail
    go_roundg (l.length + 1 - (q + 1))
    case measure => have := hg.out; omega
    case rel => exact ⟨q + 1, rfl, hlt, Hd (Nat.le_refl _), KA, rfl⟩
  obtain rfl : q = l.length := by omega
  have L := Hd (Ql6 (nmIs s) l hA.out)
  go_wp2_with fail
  refine pR (v := .tuple #[.agg #[.int .i64 0, .int .i64 0, .int .i64 0, .string ⟨#[]⟩, .int .i64 0], .bool false]) (by simp [results, Tryz.results57, go_sem, s0, s1, s2, s3, s4, s5]; try rfl) rfl ⟨by unfold lookB isB; rw [L.out]; rfl, ?_⟩
  have h1 := HNN.out
  have h2 := HW.out
  exact Bel.y
def RnmC (l : List Bnd) (x : Ex) : Prop := ∀ (w : World) (A : Option Addr) (c : Nat) (AL : Option Addr) (cL : Nat), okX x = true -> Bnds w AL l -> Lie (fun _ => True) w A x.ks ->
 Calls Tryz.prog 29 #[exV x.op x.v (Qaa x.nm) A x.ks.length c, .slice AL l.length cL] w fun r w' => r = .returned (.bool (bdsX l x)) /\ Bel w w'
theorem Qjr (l : List Bnd) (hln : l.length <= 9223372036854775807) (x : Ex) (IH : ∀ y ∈ x.ks, RnmC l y) : RnmC l x := by
 intro w A c AL cL ho hB hL
 obtain ⟨o, ⟨vk, vn, vs, vt, vm⟩, nm, ks⟩ := x
 obtain ⟨hk3, hok⟩ := Qby ho
 have hp := Qbt (show prtB o ⟨vk, vn, vs, vt, vm⟩ nm ks.length = true from by rw [okX, bA] at ho; exact ho.1)
 have hkn := hp.2.2.1
 have HR := Hd (show bdsX l (.mk o ⟨vk, vn, vs, vt, vm⟩ nm ks) = ((if o = 2 then isB l (Qaa nm) else true) && bdsL l ks) from by rw [bdsX]; rfl)
 simp only [Ex.op, Ex.v, Ex.nm, Ex.ks] at hL ⊢
 generalize bdsX l (.mk o ⟨vk, vn, vs, vt, vm⟩ nm ks) = R at HR ⊢
 generalize Qaa nm = bn at HR ⊢
 have HI := Hd fun (q : Nat) (y : Ex) (hy : ks[q]? = some y) => And.intro (IH y (List.mem_of_getElem? hy)) (hok y (List.mem_of_getElem? hy))
 obtain ⟨n, hn'⟩ : ∃ n, n = ks.length := ⟨_, rfl⟩
 rw [← hn'] at hk3 hkn ⊢
 have Hn := Hd hn'
 have HBB := Hd hB
 have HLL := Hd hL
 have hni : (n : Int) <= 3 := by omega
 clear ho hB hL hn' IH hok hp
 by_cases h2 : o = 2
 ·subst h2
  obtain rfl : n = 0 := hkn
  have hks : ks = [] := List.eq_nil_of_length_eq_zero Hn.out.symm
  have L := Hd (show R = isB l bn from by rw [HR.out, hks, bdsL]; simp)
  have CB := Hd fun W (hW : Bel w W) => Qgj l AL cL bn W (HBB.out.keep hW) hln
  generalize isB l bn = z at L CB
  generalize lookB l bn = y at CB
  obtain ⟨yk, yn, ys, yt, ym⟩ := y
  clear HR HI HLL hks Hn
  go_enter Tryz.func29, Tryz.ntmps29
  go_upto_region 1 with fail
  refine uN (w0 := w) (by exact Bel.y) fun W0 hcc hf hz hb0 => ?_
  have T0 : Qab W0 w.heap.size 2 ⟨vk, vn, vs, vt, vm⟩ bn A 0 c := by simp [Qab, Qap, hcc, hf, hz, go_sem]
  clear hcc hf hz
  generalize w.heap.size = N at T0
  have HB0 := Hd hb0
  have K0 := Hd T0
  clear hb0 T0
  obtain ⟨tz, t0, t1, t2, t3, t4, t5, t6, t7⟩ := K0.out.u
  go_wp2_with (go_at_call 57; (with_reducible refine Calls.mono (CB.out _ HB0.out) ?_); rintro ee V6 ⟨rfl, hb6⟩; have hq6 := Hd (HB0.out.trans hb6); clear hb6)
  go_ret
  exact ⟨by rw [L.out] <;> rfl, by have h1 := hq6.out; have h2 := hq6.out.size; exact Bel.y⟩
 have he2 : (o == 2) = false := by rw [bN]; exact h2
 have L := Hd (show R = bdsL l ks from by rw [HR.out, iN h2, Bool.true_and])
 clear HR hkn
 go_enter Tryz.func29, Tryz.ntmps29
 go_upto_region 1 with fail
 refine uN (w0 := w) (by exact Bel.y) fun W0 hcc hf hz hb0 => ?_
 have T0 : Qab W0 w.heap.size o ⟨vk, vn, vs, vt, vm⟩ bn A n c := by simp [Qab, Qap, hcc, hf, hz, go_sem]
 clear hcc hf hz
 generalize w.heap.size = N at T0
 have HB0 := Hd hb0
 have K0 := Hd T0
 clear hb0 T0
 obtain ⟨tz, t0, t1, t2, t3, t4, t5, t6, t7⟩ := K0.out.u
 go_wp2_with fail
 clear tz t0 t1 t2 t3 t4 t5 t6 t7
 go_loopg [7] (n + 1) (fun g iv wr => ∃ q : Nat, iv = .int .i64 q /\ q <= n /\ Hid (n + 1 - q <= g) /\ Hid (R = bdsL l (ks.drop q)) /\ Hid (Bel W0 wr))
 case atStart => exact ⟨0, rfl, Nat.zero_le _, Hd (by omega), Hd L.out, Hd (Bel.refl _)⟩
 case round =>
  obtain ⟨q, rfl, hq, hg, hR, hW⟩ := hrel
  obtain ⟨tz, t0, t1, t2, t3, t4, t5, t6, t7⟩ := (K0.out.keep hW.out).u
  rcases Nat.lt_or_ge q n with hlt | hge
  ·have hlti : (q : Int) < n := by omega
   have l0 : (0 : Int) <= (q : Int) := by omega
   have wq : IntKind.i64.wrap ((q : Int) + 1) = ((q + 1 : Nat) : Int) := by rw [IntKind.wrap_i64]; omega
   obtain ⟨y, hy⟩ : ∃ y, ks[q]? = some y := ⟨ks[q]'(by have := Hn.out; omega), gE _⟩
   obtain ⟨B, off, rfl, -, hBlt, A', c', hE, hLy⟩ := (HLL.out.keep (HB0.out.trans hW.out)).get2 hy
   obtain ⟨HC, hoy⟩ := HI.out q y hy
   have hR2 := Hd (show R = (bdsX l y && bdsL l (ks.drop (q + 1))) from by rw [hR.out, List.drop_eq_getElem_cons (by have := Hn.out; omega), bdsL, show ks[q] = y from by rw [List.getElem?_eq_some_iff] at hy; exact hy.2])
   have CK := HC wr A' c' AL cL hoy (HBB.out.keep (HB0.out.trans hW.out)) hLy
   obtain ⟨yo, ⟨yk, yn, ys, yt, ym⟩, ynm, yks⟩ := y
   simp only [Ex.op, Ex.v, Ex.nm, Ex.ks] at hE CK
   obtain ⟨e0, e1, e2, e3, e4, e5, e6, e7⟩ := hE
   clear hy hLy hBlt HC hoy
   cases hz : bdsX l (.mk yo ⟨yk, yn, ys, yt, ym⟩ ynm yks) with
   | false =>
    rw [hz] at CK
    have L2 := Hd (show R = false from by rw [hR2.out, hz]; rfl)
    have CK := Hd CK
    clear hz
    go_wp2_with (go_at_call 29; (with_reducible refine Calls.mono CK.out ?_); rintro ee V6 ⟨rfl, hb6⟩; have hq6 := Hd (hW.out.trans hb6); clear hb6)
    go_ret
    exact ⟨by rw [L2.out] <;> rfl, HB0.out.trans hq6.out⟩
   | true =>
    rw [hz] at CK
    have L2 := Hd (show R = bdsL l (ks.drop (q + 1)) from by rw [hR2.out, hz, Bool.true_and])
    have CK := Hd CK
    clear hz
    go_wp2_with (go_at_call 29; (with_reducible refine Calls.mono CK.out ?_); rintro ee V6 ⟨rfl, hb6⟩; have hq6 := Hd (hW.out.trans hb6); clear hb6)
    go_roundg (n + 1 - (q + 1))
    case measure => have := hg.out; omega
    case rel => exact ⟨q + 1, rfl, hlt, Hd (Nat.le_refl _), L2, hq6⟩
  obtain rfl : q = n := by omega
  have L2 := Hd (show R = true from by rw [hR.out, List.drop_of_length_le (by have := Hn.out; omega), bdsL])
  go_wp2_with fail
  go_ret
  exact ⟨by rw [L2.out] <;> rfl, HB0.out.trans hW.out⟩
theorem Ql7 (l : List Bnd) (hln : l.length <= 9223372036854775807) : ∀ x : Ex, RnmC l x := Ex.ind fun op v nm ks IH => Qjr l hln (.mk op v nm ks) IH
end
section
open Go.RowKit
attribute [local go_sem ↓] Qas Qau
def RvC (l : List Bnd) (x : Ex) : Prop := ∀ (w : World) (A : Option Addr) (c : Nat) (AL : Option Addr) (cL : Nat), okX x = true -> bdsX l x = true -> Bnds w AL l -> Lie (fun _ => True) w A x.ks ->
 Calls Tryz.prog 30 #[exV x.op x.v (Qaa x.nm) A x.ks.length c, .slice AL l.length cL] w fun r w' => r = .returned (evX l x).val /\ Bel w w'
theorem OwnV.made {w0 w : World} (h : Bel w0 w) : OwnV (w.alloc (.cells #[] 25)) w0.heap.size (.slice (some ⟨w.heap.size, 0, none⟩) 0 0) [] :=
 World.ownsRow_made w #[] 0 h.size (by simp [maxLen]) rfl
theorem len1 {r : List Val} (h : r.length = 1) : ∃ a, r = [a] := by
 match r, h with
 | [a], _ => exact ⟨a, rfl⟩
theorem len2 {r : List Val} (h : r.length = 2) : ∃ a b, r = [a, b] := by
 match r, h with
 | [a, b], _ => exact ⟨a, b, rfl⟩
theorem len3 {r : List Val} (h : r.length = 3) : ∃ a b c, r = [a, b, c] := by
 match r, h with
 | [a, b, c], _ => exact ⟨a, b, c, rfl⟩
def K2 (w : World) (g : Nat) (x y : Val) : Prop := w.cell? ⟨g, 0, none⟩ = some (.int .i64 x.kind) /\ w.cell? ⟨g, 1, none⟩ = some (.int .i64 x.n) /\ w.cell? ⟨g, 2, none⟩ = some (.int .i64 x.scale) /\ w.cell? ⟨g, 3, none⟩ = some (.string x.text) /\ w.cell? ⟨g, 4, none⟩ = some (.int .i64 x.num) /\
 w.cell? ⟨g, 5, none⟩ = some (.int .i64 y.kind) /\ w.cell? ⟨g, 6, none⟩ = some (.int .i64 y.n) /\ w.cell? ⟨g, 7, none⟩ = some (.int .i64 y.scale) /\ w.cell? ⟨g, 8, none⟩ = some (.string y.text) /\ w.cell? ⟨g, 9, none⟩ = some (.int .i64 y.num)
theorem K2.keep {w w' : World} {g : Nat} {x y : Val} (h : K2 w g x y) (hg : g < w.heap.size) (hb : Bel w w') : K2 w' g x y := by
 simp only [K2, hb.cells _ _ hg]
 exact h
theorem K2.far {w : World} {g : Nat} {x y : Val} (h : K2 w g x y) {q : Addr} (hp : g ≠ q.block) (v : Value) : K2 (w.setCell q v) g x y := by
 have hc : ∀ o, (w.setCell q v).cell? ⟨g, o, none⟩ = w.cell? ⟨g, o, none⟩ := fun o => World.cell?_setCell_far w q ⟨g, o, none⟩ v (fun e => hp e.symm)
 simp only [K2, hc]
 exact h
end
end Go.Proofs.YtjckpkamhdbcnaaGreatDoor
