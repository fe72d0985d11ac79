import Derived.Test.YtjckpkamhdbcnaaGreatDoorZx
namespace Go.Proofs.YtjckpkamhdbcnaaGreatDoor
set_option maxRecDepth 100000
set_option maxHeartbeats 64000000
set_option linter.unusedSimpArgs false
set_option linter.unusedVariables false
open Go.RowKit
mutual
def bgX : Ex -> Int -> Int -> Int
 | .mk _ _ _ ks, d, l => if 80 < d then -1 else bgL ks (IntKind.i64.wrap (d + 1)) (IntKind.i64.wrap (l - 1))
def bgL : List Ex -> Int -> Int -> Int
 | [], _, l => l
 | x :: t, d, l => if 0 <= l then bgL t d (bgX x d l) else l
end
def BgC (x : Ex) : Prop := ∀ (w : World) (A : Option Addr) (c : Nat) (d l : Int), lnX x -> Lie (fun _ => True) w A x.ks ->
 Calls Tryz.prog 10 #[exV x.op x.v (Qaa x.nm) A x.ks.length c, .int .i64 d, .int .i64 l] w fun r w' => r = .returned (.int .i64 (bgX x d l)) /\ Bel w w'
theorem Qsc (x : Ex) (IH : ∀ y ∈ x.ks, BgC y) : BgC x := by
 intro w A c d l hln hL
 obtain ⟨o, ⟨vk, vn, vs, vt, vm⟩, nm, ks⟩ := x
 obtain ⟨hl1, hl2⟩ := hln
 simp only [Ex.op, Ex.v, Ex.nm, Ex.ks] at hL ⊢
 have HI := Hd fun (q : Nat) (y : Ex) (hy : ks[q]? = some y) => And.intro (IH y (List.mem_of_getElem? hy)) (Qjh hl2 (List.mem_of_getElem? hy))
 have HL := Hd hL
 obtain ⟨bn, hbn⟩ : ∃ b, b = Qaa nm := ⟨_, rfl⟩
 obtain ⟨n, hn⟩ : ∃ n, n = ks.length := ⟨_, rfl⟩
 rw [← hn] at hl1
 rw [← hn, ← hbn]
 have Hn := Hd hn
 have hni : (n : Int) <= 9223372036854775807 := by omega
 clear hl2 IH hL hn hbn
 have HR : bgX (.mk o ⟨vk, vn, vs, vt, vm⟩ nm ks) d l = if 80 < d then -1 else bgL ks (IntKind.i64.wrap (d + 1)) (IntKind.i64.wrap (l - 1)) := by rw [bgX]
 generalize hl1' : IntKind.i64.wrap (l - 1) = l1 at HR
 generalize hD' : IntKind.i64.wrap (d + 1) = D at HR
 generalize bgX (.mk o ⟨vk, vn, vs, vt, vm⟩ nm ks) d l = R at HR ⊢
 by_cases hd : 80 < d
 ·rw [iP hd] at HR
  replace HR := Hd HR
  go_enter Tryz.func10, Tryz.ntmps10
  go_upto_region 1 with fail
  refine uN ((Bel.refl w).alloc _) fun W1 hcc hf hz hb => ?_
  have T1 : Qab W1 w.heap.size o ⟨vk, vn, vs, vt, vm⟩ bn A n c := by simp [Qab, Qap, hcc, hf, hz, go_sem]
  clear hcc hf hz
  generalize w.heap.size = N at T1
  have HB0 := Hd hb
  clear hb
  have L1 := Hd T1
  obtain ⟨tz, t0, t1, t2, t3, t4, t5, t6, t7⟩ := T1.u
  go_wp2_with fail
  go_ret
  exact ⟨by first | (rw [HR.out]; done) | (rw [HR.out]; rfl), HB0.out⟩
 rw [iN hd] at HR
 replace HR := Hd HR
 go_enter Tryz.func10, Tryz.ntmps10
 go_upto_region 1 with fail
 refine uN ((Bel.refl w).alloc _) fun W1 hcc hf hz hb => ?_
 have T1 : Qab W1 w.heap.size o ⟨vk, vn, vs, vt, vm⟩ bn A n c := by simp [Qab, Qap, hcc, hf, hz, go_sem]
 clear hcc hf hz
 generalize w.heap.size = N at T1
 have HB0 := Hd hb
 clear hb
 have L1 := Hd T1
 obtain ⟨tz, t0, t1, t2, t3, t4, t5, t6, t7⟩ := T1.u
 go_wp2_with fail
 clear tz t0 t1 t2 t3 t4 t5 t6 t7 hl1'
 go_loopg [2, 7] (n + 1) (fun g lv iv wr => ∃ (q : Nat) (l : Int), iv = .int .i64 q /\ lv = .int .i64 l /\ q <= n /\ Hid (n + 1 - q <= g) /\ Hid (R = bgL (ks.drop q) D l) /\ Hid (Bel W1 wr))
 case atStart => exact ⟨0, l1, rfl, rfl, Nat.zero_le _, Hd (by omega), HR, Hd (Bel.refl _)⟩
 case round =>
  obtain ⟨q, l, rfl, rfl, hq, hg, hR, hW⟩ := hrel
  obtain ⟨tz, t0, t1, t2, t3, t4, t5, t6, t7⟩ := (L1.out.keep hW.out).u
  rcases Nat.lt_or_ge q n with hlt | hge
  ·by_cases hl0 : 0 <= l
   ·have hlti : (q : Int) < (n : Int) := by omega
    have l0 : (0 : Int) <= (q : Int) := by omega
    have wq : IntKind.i64.wrap ((q : Int) + 1) = ((q + 1 : Nat) : Int) := by rw [IntKind.wrap_i64]; omega
    obtain ⟨y, hy⟩ : ∃ y, ks[q]? = some y := ⟨ks[q]'(by have := Hn.out; omega), gE _⟩
    obtain ⟨B, off, hAA, -, hBlt, A', c', hE, hLy⟩ := (HL.out.keep (HB0.out.trans hW.out)).get hy
    subst hAA
    obtain ⟨HC, hly⟩ := HI.out q y hy
    have hR2 := Hd (show R = bgL (ks.drop (q + 1)) D (bgX y D l) from by rw [hR.out, List.drop_eq_getElem_cons (by have := Hn.out; omega), bgL, iP hl0, show ks[q] = y from by rw [List.getElem?_eq_some_iff] at hy; exact hy.2])
    obtain ⟨yo, ⟨yk, yn, ys, yt, ym⟩, ynm, yks⟩ := y
    have CK := Hd (HC wr A' c' D l hly hLy)
    simp only [Ex.op, Ex.v, Ex.nm, Ex.ks] at hE CK
    obtain ⟨e0, e1, e2, e3, e4, e5, e6, e7⟩ := hE
    clear hy hLy hBlt HC hly
    go_wp2_with (go_at_call 10; (with_reducible refine Calls.mono CK.out ?_); rintro ee V6 ⟨rfl, hb6⟩; have hq6 := Hd (hW.out.trans hb6); clear hb6)
    go_roundg (n + 1 - (q + 1))
    case measure => have := hg.out; omega
    case rel => exact ⟨q + 1, _, rfl, rfl, hlt, Hd (Nat.le_refl _), hR2, hq6⟩
   have hlti : (q : Int) < (n : Int) := by omega
   have hR2 := Hd (show R = l from by rw [hR.out, List.drop_eq_getElem_cons (by have := Hn.out; omega), bgL, iN hl0])
   go_wp2_with fail
   go_ret
   exact ⟨by first | (rw [hR2.out]; done) | (rw [hR2.out]; rfl), HB0.out.trans hW.out⟩
  obtain rfl : q = n := by omega
  have hR2 := Hd (show R = l from by rw [hR.out, List.drop_of_length_le (by have := Hn.out; omega), bgL])
  go_wp2_with fail
  go_ret
  exact ⟨by first | (rw [hR2.out]; done) | (rw [hR2.out]; rfl), HB0.out.trans hW.out⟩
theorem Qpp : ∀ x : Ex, BgC x := Ex.ind fun op v nm ks IH => Qsc (.mk op v nm ks) IH
end Go.Proofs.YtjckpkamhdbcnaaGreatDoor
