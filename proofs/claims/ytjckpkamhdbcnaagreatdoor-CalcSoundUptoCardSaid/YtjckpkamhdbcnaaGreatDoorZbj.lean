import Derived.Test.YtjckpkamhdbcnaaGreatDoorZbh
import Derived.Test.YtjckpkamhdbcnaaGreatDoorZbi
import Derived.Test.YtjckpkamhdbcnaaGreatDoorZw
import Derived.Test.YtjckpkamhdbcnaaGreatDoorZu
namespace Go.Proofs.YtjckpkamhdbcnaaGreatDoor
set_option maxRecDepth 100000
set_option maxHeartbeats 64000000
set_option linter.unusedSimpArgs false
set_option linter.unusedVariables false
section
open Go.RowKit
theorem Qwn (l : List Bnd) (hln : l.length <= 9223372036854775807) (hls : ∀ b ∈ l, vsnd b.v = true) : ∀ x : Ex, EvC l x := Ex.ind fun op v nm ks IH w A c AL cL ho => by
 have hp := Qbt (show prtB op v nm ks.length = true from by rw [okX, bA] at ho; exact ho.1)
 have h1 := hp.1
 have h2 := hp.2.1
 clear hp
 by_cases g1 : op <= 2
 ·exact Qu0 l hln hls (.mk op v nm ks) (show op = 1 \/ op = 2 by omega) IH w A c AL cL ho
 by_cases g2 : op <= 7
 ·exact Qwk l hln hls (.mk op v nm ks) (show op = 3 \/ op = 4 \/ op = 5 \/ op = 6 \/ op = 7 by omega) IH w A c AL cL ho
 by_cases g3 : op <= 13
 ·exact Qwl l hln hls (.mk op v nm ks) (show op = 8 \/ op = 9 \/ op = 10 \/ op = 11 \/ op = 12 \/ op = 13 by omega) IH w A c AL cL ho
 exact Qwm l hln hls (.mk op v nm ks) (show op = 14 \/ op = 15 \/ op = 16 \/ op = 17 by omega) IH w A c AL cL ho
def isB (l : List Bnd) (s : ByteArray) : Bool := (l.find? (nmIs s)).isSome
theorem Qu1 (l : List Bnd) (s : ByteArray) : decide (fstI (nmIs s) l 0 < 0) = !isB l s := by
 unfold isB
 rcases Qhf (nmIs s) l 0 with ⟨a, b⟩ | ⟨x, j, a, b, c⟩
 ·rw [a, b]; rfl
 rw [a, b]; exact dF (by omega)
theorem Qrq (l : List Bnd) (hln : l.length <= 9223372036854775807) (hlf : ∀ b ∈ l, b.Fit) (AL : Option Addr) (cL : Nat) (ns : List ByteArray) (A : Option Addr) (c : Nat) (w : World) (hB : Bnds w AL l) (hS : Strs w A ns) (hn : ns.length <= 9223372036854775807) :
  Calls Tryz.prog 25 #[.slice AL l.length cL, .slice A ns.length c] w fun e w' => e = .returned (.bool (ns.all (isB l))) /\ Bel w w' := by
 obtain ⟨R, hR⟩ : ∃ R, R = ns.all (isB l) := ⟨_, rfl⟩
 rw [← hR]
 have RR := Hd hR
 have CB := Hd (fun s w hB => Qh8 l AL cL s w hB hln hlf)
 have HB := Hd hB
 clear hR hB hlf
 have hli : (ns.length : Int) <= 9223372036854775807 := by omega
 go_enter Tryz.func25, Tryz.ntmps25
 go_wp2
 go_loopg [6, 9] ns.length (fun g _ i wr => ∃ k : Nat, i = .int .i64 k /\ k <= ns.length /\ Hid (R = (ns.drop k).all (isB l) /\ g = ns.length - k) /\ Bel w wr)
 case atStart => exact ⟨0, rfl, Nat.zero_le _, ⟨RR.out, rfl⟩, Bel.refl _⟩
 case round =>
  obtain ⟨k, rfl, hk, hh, hb⟩ := hrel
  by_cases hlt : k < ns.length
  ·obtain ⟨b, off, rfl, hltb, hat⟩ := hS.blk (by omega)
   obtain ⟨s, hsk⟩ : ∃ s, ns[k]? = some s := ⟨_, gE hlt⟩
   have hcell := (hb.cells _ (off + k) hltb).trans (hat k s hsk)
   have hdr : ns.drop k = s :: ns.drop (k + 1) := by rw [List.drop_eq_getElem_cons hlt]; simp [gE hlt] at hsk; rw [hsk]
   have RN := Hd (show R = (isB l s && (ns.drop (k + 1)).all (isB l)) from by rw [hh.out.1, hdr]; rfl)
   have hfst := Qu1 l s
   have C := CB.out s wr (HB.out.keep hb)
   obtain ⟨r, hr⟩ : ∃ r, r = fstI (nmIs s) l 0 := ⟨_, rfl⟩
   rw [← hr] at C hfst
   have C := Hd C
   have i1 : (k : Int) < ns.length := by omega
   have i2 : (0 : Int) <= (k : Int) := by omega
   clear hS hat hsk hdr hr
   cases hq : isB l s with
   | false =>
    rw [hq] at hfst
    have hr0 : decide (r < 0) = true := hfst
    clear hfst
    obtain rfl : R = false := by rw [RN.out, hq]; rfl
    go_wp2_with (go_at_call 46; (with_reducible refine Calls.mono C.out ?_); rintro e w' ⟨rfl, hb'⟩)
    go_ret
    exact ⟨rfl, hb.trans hb'⟩
   | true =>
    rw [hq] at hfst
    have hr0 : decide (r < 0) = false := hfst
    clear hfst
    have RN := Hd (show R = (ns.drop (k + 1)).all (isB l) from by rw [RN.out, hq]; rfl)
    go_wp2_with (go_at_call 46; (with_reducible refine Calls.mono C.out ?_); rintro e w' ⟨rfl, hb'⟩)
    go_roundg (ns.length - (k + 1))
    case measure => have := hh.out.2; omega
    case rel => exact ⟨k + 1, by go_num, by omega, ⟨RN.out, rfl⟩, hb.trans hb'⟩
  obtain rfl : k = ns.length := by omega
  have h := hh.out.1
  rw [List.drop_length] at h
  obtain rfl : R = true := h
  go_wp2
  go_ret
  exact ⟨rfl, hb⟩
mutual
theorem Qs0 (l : List Bnd) : ∀ x : Ex, bdsX l x = (nmsX x).all (isB l)
 | .mk o v nm ks => by
  rw [bdsX, nmsX, List.all_append, Qo5 l ks]
  by_cases h : o = 2
  ·rw [iP h, iP h]; simp [isB]
  rw [iN h, iN h]; simp
theorem Qo5 (l : List Bnd) : ∀ ks : List Ex, bdsL l ks = (nmsL ks).all (isB l)
 | [] => by rw [bdsL, nmsL]; rfl
 | x :: t => by rw [bdsL, nmsL, List.all_append, Qs0 l x, Qo5 l t]
end
theorem Qu2 (l : List Bnd) {x : Ex} (h : sndX x = true) : (nmeX x).all (isB l) = bdsX l x := by
 rw [Qs0, nmeX, iP h, Bool.eq_iff_iff, List.all_eq_true, List.all_eq_true]
 exact ⟨fun H s hs => H s ((Qft _ s).2 hs), fun H s hs => H s ((Qft _ s).1 hs)⟩
def evV (l : List Bnd) (x : Ex) : Val × Int := if sndX x = true /\ l.all (fun b => vsnd b.v) = true then (if bdsX l x = true then (evX l x, 0) else (zero, 7)) else (zero, 2)
theorem Qc1 (l : List Bnd) (hln : l.length <= 9223372036854775807) (hlf : ∀ b ∈ l, b.Fit) (x : Ex) (A : Option Addr) (c : Nat) (AL : Option Addr) (cL : Nat) (w : World) (hsm : smX x) (hL : Lie (fun _ => True) w A x.ks) (hB : Bnds w AL l) :
  Calls Tryz.prog 12 #[exV x.op x.v (Qaa x.nm) A x.ks.length c, .slice AL l.length cL] w fun r w' => r = .returned (.tuple #[(evV l x).1.val, .int .i64 (evV l x).2]) /\ Bel w w' := by
 have CS := fun (W : World) (hW : Bel w W) => Qdc x (fun _ => True) A c W hsm (hL.keep hW)
 have CN := fun (W : World) (hW : Bel w W) => Qok x A c W hsm (hL.keep hW)
 have CF := fun (W : World) (hW : Bel w W) => Qo4 l AL cL 21 #[] _ Qwi W (Qrn W) (hB.keep hW) hln hlf
 have CA := fun (W : World) (An : Option Addr) (cn : Nat) (hW : Bel w W) (hS : Strs W An (nmeX x)) (hn : (nmeX x).length <= 9223372036854775807) => Qrq l hln hlf AL cL (nmeX x) An cn W (hB.keep hW) hS hn
 unfold NmOut at CN
 have hnl : (nmeX x).length <= 9223372036854775807 := by
  unfold nmeX
  split
  ·rename_i hh
   have h1 := Qh1 (nmsX x)
   have h2 := Qg7 x
   unfold sndX at hh
   rw [bA, bA, decide_eq_true_eq, decide_eq_true_eq] at hh
   omega
  exact Nat.zero_le _
 replace CA := fun (W : World) (An : Option Addr) (cn : Nat) (hW : Bel w W) (hS : Strs W An (nmeX x)) => CA W An cn hW hS hnl
 clear hnl
 cases hs : sndX x with
 | false =>
  have L0 : evV l x = (zero, 2) := iN (fun h => by rw [hs] at h; cases h.1)
  rw [hs] at CS
  obtain ⟨o, ⟨vk, vn, vs, vt, vm⟩, nm, ks⟩ := x
  simp only [Ex.op, Ex.v, Ex.nm, Ex.ks] at CS CN ⊢
  rw [L0]
  generalize Qaa nm = bn at CS CN ⊢
  generalize ks.length = n at CS CN ⊢
  generalize nmeX (.mk o ⟨vk, vn, vs, vt, vm⟩ nm ks) = ns at CN CA
  have CS := Hd CS
  have CN := Hd CN
  have CF := Hd CF
  have CA := Hd CA
  clear hsm hL hB hlf L0 hs
  go_enter Tryz.func12, Tryz.ntmps12
  go_upto_region 2 with fail
  refine uN (w0 := w) (by exact Bel.y) fun W0 hcc hf hz hb0 => ?_
  have T0 : Qab W0 w.heap.size o ⟨vk, vn, vs, vt, vm⟩ bn A n c := by simp [Qab, Qap, hcc, hf, hz, go_sem]
  have S0 : Slot W0 (w.heap.size + 1) zero := by simp [Slot, Qal, Qah, zero, hcc, hf, hz, go_sem]
  clear hcc hf hz
  have HN0 := Hd (Nat.le_refl w.heap.size)
  generalize hNN : w.heap.size = N at T0 S0
  have HNN := Hd (Nat.le_of_eq hNN)
  clear hNN HN0
  have HB0 := Hd hb0
  have K0 := Hd T0
  clear hb0 T0
  obtain ⟨tz, ⟨t0, t1, t2, t3, t4, t5, t6, t7⟩, ⟨tf0, tf1, tf2, tf3, tf4, tf5, tf6, tf7⟩⟩ := K0.out
  simp only [Nat.zero_add] at t0 t1 t2 t3 t4 t5 t6 t7
  go_wp2_with (first
   | (go_at_call 23; (with_reducible refine Calls.mono (CS.out _ HB0.out) ?_); rintro e V1 ⟨rfl, hb1⟩; have HB1 := Hd (HB0.out.trans hb1); have K1 := Hd (K0.out.keep hb1); have S1 := S0.keep hb1; clear hb1 S0 tz t0 t1 t2 t3 t4 t5 t6 t7 tf0 tf1 tf2 tf3 tf4 tf5 tf6 tf7; obtain ⟨tz, ⟨t0, t1, t2, t3, t4, t5, t6, t7⟩, ⟨tf0, tf1, tf2, tf3, tf4, tf5, tf6, tf7⟩⟩ := K1.out; simp only [Nat.zero_add] at t0 t1 t2 t3 t4 t5 t6 t7))
  refine pR (by simp [results, Tryz.results12, go_sem, S1, zero]; try rfl) rfl ⟨rfl, ?_⟩
  have hNw := HNN.out
  have hbz := HB1.out
  exact Bel.y
 | true =>
 have hany : l.any (fun b => !vsnd b.v) = !l.all (fun b => vsnd b.v) := by rw [List.all_eq_not_any_not, Bool.not_not]
 rw [hany] at CF
 cases ha : l.all (fun b => vsnd b.v) with
 | false =>
  have L0 : evV l x = (zero, 2) := iN (fun h => by rw [ha] at h; cases h.2)
  rw [hs] at CS
  rw [ha] at CF
  obtain ⟨o, ⟨vk, vn, vs, vt, vm⟩, nm, ks⟩ := x
  simp only [Ex.op, Ex.v, Ex.nm, Ex.ks] at CS CN ⊢
  rw [L0]
  generalize Qaa nm = bn at CS CN ⊢
  generalize ks.length = n at CS CN ⊢
  generalize nmeX (.mk o ⟨vk, vn, vs, vt, vm⟩ nm ks) = ns at CN CA
  have CS := Hd CS
  have CN := Hd CN
  have CF := Hd CF
  have CA := Hd CA
  clear hsm hL hB hlf L0 hs hany ha
  go_enter Tryz.func12, Tryz.ntmps12
  go_upto_region 2 with fail
  refine uN (w0 := w) (by exact Bel.y) fun W0 hcc hf hz hb0 => ?_
  have T0 : Qab W0 w.heap.size o ⟨vk, vn, vs, vt, vm⟩ bn A n c := by simp [Qab, Qap, hcc, hf, hz, go_sem]
  have S0 : Slot W0 (w.heap.size + 1) zero := by simp [Slot, Qal, Qah, zero, hcc, hf, hz, go_sem]
  clear hcc hf hz
  have HN0 := Hd (Nat.le_refl w.heap.size)
  generalize hNN : w.heap.size = N at T0 S0
  have HNN := Hd (Nat.le_of_eq hNN)
  clear hNN HN0
  have HB0 := Hd hb0
  have K0 := Hd T0
  clear hb0 T0
  obtain ⟨tz, ⟨t0, t1, t2, t3, t4, t5, t6, t7⟩, ⟨tf0, tf1, tf2, tf3, tf4, tf5, tf6, tf7⟩⟩ := K0.out
  simp only [Nat.zero_add] at t0 t1 t2 t3 t4 t5 t6 t7
  go_wp2_with (first
   | (go_at_call 23; (with_reducible refine Calls.mono (CS.out _ HB0.out) ?_); rintro e V1 ⟨rfl, hb1⟩; have HB1 := Hd (HB0.out.trans hb1); have K1 := Hd (K0.out.keep hb1); have S1 := S0.keep hb1; clear hb1 S0 tz t0 t1 t2 t3 t4 t5 t6 t7 tf0 tf1 tf2 tf3 tf4 tf5 tf6 tf7; obtain ⟨tz, ⟨t0, t1, t2, t3, t4, t5, t6, t7⟩, ⟨tf0, tf1, tf2, tf3, tf4, tf5, tf6, tf7⟩⟩ := K1.out; simp only [Nat.zero_add] at t0 t1 t2 t3 t4 t5 t6 t7)
   | (go_at_call 24; (with_reducible refine Calls.mono (CF.out _ HB1.out) ?_); rintro e V2 ⟨rfl, hb2⟩; have HB2 := Hd (HB1.out.trans hb2); have K2 := Hd (K1.out.keep hb2); have S2 := S1.keep hb2; clear hb2 S1 tz t0 t1 t2 t3 t4 t5 t6 t7 tf0 tf1 tf2 tf3 tf4 tf5 tf6 tf7; obtain ⟨tz, ⟨t0, t1, t2, t3, t4, t5, t6, t7⟩, ⟨tf0, tf1, tf2, tf3, tf4, tf5, tf6, tf7⟩⟩ := K2.out; simp only [Nat.zero_add] at t0 t1 t2 t3 t4 t5 t6 t7))
  refine pR (by simp [results, Tryz.results12, go_sem, S2, zero]; try rfl) rfl ⟨rfl, ?_⟩
  have hNw := HNN.out
  have hbz := HB2.out
  exact Bel.y
 | true =>
 have hnm := Qu2 l hs
 cases hd : bdsX l x with
 | false =>
  have L0 : evV l x = (zero, 7) := by unfold evV; rw [iP ⟨hs, ha⟩, hd]; rfl
  rw [hnm, hd] at CA
  rw [hs] at CS
  rw [ha] at CF
  obtain ⟨o, ⟨vk, vn, vs, vt, vm⟩, nm, ks⟩ := x
  simp only [Ex.op, Ex.v, Ex.nm, Ex.ks] at CS CN ⊢
  rw [L0]
  generalize Qaa nm = bn at CS CN ⊢
  generalize ks.length = n at CS CN ⊢
  generalize nmeX (.mk o ⟨vk, vn, vs, vt, vm⟩ nm ks) = ns at CN CA
  have CS := Hd CS
  have CN := Hd CN
  have CF := Hd CF
  have CA := Hd CA
  clear hsm hL hB hlf L0 hs hany ha hnm hd
  go_enter Tryz.func12, Tryz.ntmps12
  go_upto_region 2 with fail
  refine uN (w0 := w) (by exact Bel.y) fun W0 hcc hf hz hb0 => ?_
  have T0 : Qab W0 w.heap.size o ⟨vk, vn, vs, vt, vm⟩ bn A n c := by simp [Qab, Qap, hcc, hf, hz, go_sem]
  have S0 : Slot W0 (w.heap.size + 1) zero := by simp [Slot, Qal, Qah, zero, hcc, hf, hz, go_sem]
  clear hcc hf hz
  have HN0 := Hd (Nat.le_refl w.heap.size)
  generalize hNN : w.heap.size = N at T0 S0
  have HNN := Hd (Nat.le_of_eq hNN)
  clear hNN HN0
  have HB0 := Hd hb0
  have K0 := Hd T0
  clear hb0 T0
  obtain ⟨tz, ⟨t0, t1, t2, t3, t4, t5, t6, t7⟩, ⟨tf0, tf1, tf2, tf3, tf4, tf5, tf6, tf7⟩⟩ := K0.out
  simp only [Nat.zero_add] at t0 t1 t2 t3 t4 t5 t6 t7
  go_wp2_with (first
   | (go_at_call 23; (with_reducible refine Calls.mono (CS.out _ HB0.out) ?_); rintro e V1 ⟨rfl, hb1⟩; have HB1 := Hd (HB0.out.trans hb1); have K1 := Hd (K0.out.keep hb1); have S1 := S0.keep hb1; clear hb1 S0 tz t0 t1 t2 t3 t4 t5 t6 t7 tf0 tf1 tf2 tf3 tf4 tf5 tf6 tf7; obtain ⟨tz, ⟨t0, t1, t2, t3, t4, t5, t6, t7⟩, ⟨tf0, tf1, tf2, tf3, tf4, tf5, tf6, tf7⟩⟩ := K1.out; simp only [Nat.zero_add] at t0 t1 t2 t3 t4 t5 t6 t7)
   | (go_at_call 24; (with_reducible refine Calls.mono (CF.out _ HB1.out) ?_); rintro e V2 ⟨rfl, hb2⟩; have HB2 := Hd (HB1.out.trans hb2); have K2 := Hd (K1.out.keep hb2); have S2 := S1.keep hb2; clear hb2 S1 tz t0 t1 t2 t3 t4 t5 t6 t7 tf0 tf1 tf2 tf3 tf4 tf5 tf6 tf7; obtain ⟨tz, ⟨t0, t1, t2, t3, t4, t5, t6, t7⟩, ⟨tf0, tf1, tf2, tf3, tf4, tf5, tf6, tf7⟩⟩ := K2.out; simp only [Nat.zero_add] at t0 t1 t2 t3 t4 t5 t6 t7)
   | (go_at_call 26; (with_reducible refine Calls.mono (CN.out _ HB2.out) ?_); rintro e V3 ⟨An, cn, rfl, hSn, -, hb3⟩; have HSn := Hd hSn; clear hSn; have HB3 := Hd (HB2.out.trans hb3); have K3 := Hd (K2.out.keep hb3); have S3 := S2.keep hb3; clear hb3 S2 tz t0 t1 t2 t3 t4 t5 t6 t7 tf0 tf1 tf2 tf3 tf4 tf5 tf6 tf7; obtain ⟨tz, ⟨t0, t1, t2, t3, t4, t5, t6, t7⟩, ⟨tf0, tf1, tf2, tf3, tf4, tf5, tf6, tf7⟩⟩ := K3.out; simp only [Nat.zero_add] at t0 t1 t2 t3 t4 t5 t6 t7)
   | (go_at_call 25; (with_reducible refine Calls.mono (CA.out _ An cn HB3.out HSn.out) ?_); rintro e V4 ⟨rfl, hb4⟩; have HB4 := Hd (HB3.out.trans hb4); have K4 := Hd (K3.out.keep hb4); have S4 := S3.keep hb4; clear hb4 S3 tz t0 t1 t2 t3 t4 t5 t6 t7 tf0 tf1 tf2 tf3 tf4 tf5 tf6 tf7; obtain ⟨tz, ⟨t0, t1, t2, t3, t4, t5, t6, t7⟩, ⟨tf0, tf1, tf2, tf3, tf4, tf5, tf6, tf7⟩⟩ := K4.out; simp only [Nat.zero_add] at t0 t1 t2 t3 t4 t5 t6 t7))
  refine pR (by simp [results, Tryz.results12, go_sem, S4, zero]; try rfl) rfl ⟨rfl, ?_⟩
  have hNw := HNN.out
  have hbz := HB4.out
  exact Bel.y
 | true =>
  have L0 : evV l x = (evX l x, 0) := by unfold evV; rw [iP ⟨hs, ha⟩, hd]; rfl
  have CE := fun (W : World) (hW : Bel w W) => Qwn l hln (fun b hb => List.all_eq_true.1 ha b hb) x W A c AL cL (by unfold sndX at hs; rw [bA] at hs; exact hs.1) hd (hB.keep hW) (hL.keep hW)
  rw [hnm, hd] at CA
  rw [hs] at CS
  rw [ha] at CF
  obtain ⟨o, ⟨vk, vn, vs, vt, vm⟩, nm, ks⟩ := x
  simp only [Ex.op, Ex.v, Ex.nm, Ex.ks] at CS CN CE ⊢
  rw [L0]
  generalize hz : evX l (.mk o ⟨vk, vn, vs, vt, vm⟩ nm ks) = z at CE ⊢
  generalize Qaa nm = bn at CS CN CE ⊢
  generalize ks.length = n at CS CN CE ⊢
  obtain ⟨zk, zn, zs, zt, zm⟩ := z
  have CE := Hd CE
  generalize nmeX (.mk o ⟨vk, vn, vs, vt, vm⟩ nm ks) = ns at CN CA
  have CS := Hd CS
  have CN := Hd CN
  have CF := Hd CF
  have CA := Hd CA
  clear hsm hL hB hlf L0 hs hany ha hnm hd hz
  go_enter Tryz.func12, Tryz.ntmps12
  go_upto_region 2 with fail
  refine uN (w0 := w) (by exact Bel.y) fun W0 hcc hf hz hb0 => ?_
  have T0 : Qab W0 w.heap.size o ⟨vk, vn, vs, vt, vm⟩ bn A n c := by simp [Qab, Qap, hcc, hf, hz, go_sem]
  have S0 : Slot W0 (w.heap.size + 1) zero := by simp [Slot, Qal, Qah, zero, hcc, hf, hz, go_sem]
  clear hcc hf hz
  have HN0 := Hd (Nat.le_refl w.heap.size)
  generalize hNN : w.heap.size = N at T0 S0
  have HNN := Hd (Nat.le_of_eq hNN)
  clear hNN HN0
  have HB0 := Hd hb0
  have K0 := Hd T0
  clear hb0 T0
  obtain ⟨tz, ⟨t0, t1, t2, t3, t4, t5, t6, t7⟩, ⟨tf0, tf1, tf2, tf3, tf4, tf5, tf6, tf7⟩⟩ := K0.out
  simp only [Nat.zero_add] at t0 t1 t2 t3 t4 t5 t6 t7
  go_wp2_with (first
   | (go_at_call 23; (with_reducible refine Calls.mono (CS.out _ HB0.out) ?_); rintro e V1 ⟨rfl, hb1⟩; have HB1 := Hd (HB0.out.trans hb1); have K1 := Hd (K0.out.keep hb1); have S1 := S0.keep hb1; clear hb1 S0 tz t0 t1 t2 t3 t4 t5 t6 t7 tf0 tf1 tf2 tf3 tf4 tf5 tf6 tf7; obtain ⟨tz, ⟨t0, t1, t2, t3, t4, t5, t6, t7⟩, ⟨tf0, tf1, tf2, tf3, tf4, tf5, tf6, tf7⟩⟩ := K1.out; simp only [Nat.zero_add] at t0 t1 t2 t3 t4 t5 t6 t7)
   | (go_at_call 24; (with_reducible refine Calls.mono (CF.out _ HB1.out) ?_); rintro e V2 ⟨rfl, hb2⟩; have HB2 := Hd (HB1.out.trans hb2); have K2 := Hd (K1.out.keep hb2); have S2 := S1.keep hb2; clear hb2 S1 tz t0 t1 t2 t3 t4 t5 t6 t7 tf0 tf1 tf2 tf3 tf4 tf5 tf6 tf7; obtain ⟨tz, ⟨t0, t1, t2, t3, t4, t5, t6, t7⟩, ⟨tf0, tf1, tf2, tf3, tf4, tf5, tf6, tf7⟩⟩ := K2.out; simp only [Nat.zero_add] at t0 t1 t2 t3 t4 t5 t6 t7)
   | (go_at_call 26; (with_reducible refine Calls.mono (CN.out _ HB2.out) ?_); rintro e V3 ⟨An, cn, rfl, hSn, -, hb3⟩; have HSn := Hd hSn; clear hSn; have HB3 := Hd (HB2.out.trans hb3); have K3 := Hd (K2.out.keep hb3); have S3 := S2.keep hb3; clear hb3 S2 tz t0 t1 t2 t3 t4 t5 t6 t7 tf0 tf1 tf2 tf3 tf4 tf5 tf6 tf7; obtain ⟨tz, ⟨t0, t1, t2, t3, t4, t5, t6, t7⟩, ⟨tf0, tf1, tf2, tf3, tf4, tf5, tf6, tf7⟩⟩ := K3.out; simp only [Nat.zero_add] at t0 t1 t2 t3 t4 t5 t6 t7)
   | (go_at_call 25; (with_reducible refine Calls.mono (CA.out _ An cn HB3.out HSn.out) ?_); rintro e V4 ⟨rfl, hb4⟩; have HB4 := Hd (HB3.out.trans hb4); have K4 := Hd (K3.out.keep hb4); have S4 := S3.keep hb4; clear hb4 S3 tz t0 t1 t2 t3 t4 t5 t6 t7 tf0 tf1 tf2 tf3 tf4 tf5 tf6 tf7; obtain ⟨tz, ⟨t0, t1, t2, t3, t4, t5, t6, t7⟩, ⟨tf0, tf1, tf2, tf3, tf4, tf5, tf6, tf7⟩⟩ := K4.out; simp only [Nat.zero_add] at t0 t1 t2 t3 t4 t5 t6 t7)
   | (go_at_call 27; (with_reducible refine Calls.mono (CE.out _ HB4.out) ?_); rintro e V5 ⟨rfl, hb5⟩; have HB5 := Hd (HB4.out.trans hb5); have K5 := Hd (K4.out.keep hb5); have S5 := S4.keep hb5; clear hb5 S4 tz t0 t1 t2 t3 t4 t5 t6 t7 tf0 tf1 tf2 tf3 tf4 tf5 tf6 tf7; obtain ⟨tz, ⟨t0, t1, t2, t3, t4, t5, t6, t7⟩, ⟨tf0, tf1, tf2, tf3, tf4, tf5, tf6, tf7⟩⟩ := K5.out; simp only [Nat.zero_add] at t0 t1 t2 t3 t4 t5 t6 t7))
  refine pR (by simp [results, Tryz.results12, go_sem, S5, zero]; try rfl) rfl ⟨rfl, ?_⟩
  have hNw := HNN.out
  have hbz := HB5.out
  exact Bel.y
end
section
open Go.RowKit
attribute [local go_sem ↓] Qas Qau
def litC : ByteArray := ⟨#[105, 102, 32, 97, 32, 62, 32, 50, 32, 116, 104, 101, 110, 32, 97, 32, 42, 32, 50, 46, 53, 32, 101, 108, 115, 101, 32, 110, 117, 108, 108]⟩
def exC : Ex := .mk 17 zv [] [.mk 12 zv [] [.mk 2 zv [97] [], .mk 1 ⟨1, 2, 0, ⟨#[]⟩, 0⟩ [] []], .mk 6 zv [] [.mk 2 zv [97] [], .mk 1 ⟨1, 25, 1, ⟨#[]⟩, 0⟩ [] []], .mk 1 ⟨0, 0, 0, ⟨#[]⟩, 0⟩ [] []]
def lsC : List Bnd := [⟨⟨#[97]⟩, ⟨1, 3, 0, ⟨#[]⟩, 0⟩⟩]
theorem Qu3 : parE litC = (exC, 0, 0) := by kernel_rfl
theorem ev_C : evX lsC exC = ⟨1, 75, 1, ⟨#[]⟩, 0⟩ := by kernel_rfl
theorem Qxc : bdsX lsC exC = true := by kernel_rfl
theorem Qxd : lsC.all (fun b => vsnd b.v) = true := by kernel_rfl
theorem Qxe : evV lsC exC = (⟨1, 75, 1, ⟨#[]⟩, 0⟩, 0) := by
 unfold evV
 rw [iP ⟨(Qi3 Qu3).2.1, Qxd⟩, iP Qxc, ev_C]
theorem Qrr (w : World) (x : Bnd) {n : Nat} (hn : n = w.heap.size) : Bnds (w.alloc (.cells #[.string x.nm, .int .i64 x.v.kind, .int .i64 x.v.n, .int .i64 x.v.scale, .string x.v.text, .int .i64 x.v.num] 46)) (some ⟨n, 0, none⟩) [x] := fun _ => by
 subst hn
 refine ⟨_, 0, rfl, by simp, fun i u hu => ?_⟩
 match i, hu with
 | 0, hu =>
  simp only [List.getElem?_cons_zero, Option.some.injEq] at hu
  subst hu
  simp [BndAt, go_sem]
theorem Qwo (W : World) : Bnds (W.alloc (.cells #[.string ⟨#[97]⟩, .int .i64 1, .int .i64 3, .int .i64 0, .string ⟨#[]⟩, .int .i64 0] 46)) (some ⟨W.heap.size, 0, none⟩) lsC := Qrr W ⟨⟨#[97]⟩, ⟨1, 3, 0, ⟨#[]⟩, 0⟩⟩ rfl
theorem Qo6 (w : World) (hm : Mx w) : Calls Tryz.prog 11 #[] w fun e w' => e = .returned (.bool true) /\ Bel w w' := by
 have CP := Hd (show Calls Tryz.prog 14 #[.string ⟨#[105, 102, 32, 97, 32, 62, 32, 50, 32, 116, 104, 101, 110, 32, 97, 32, 42, 32, 50, 46, 53, 32, 101, 108, 115, 101, 32, 110, 117, 108, 108]⟩] w fun e w' => ∃ A c, e = .returned (.tuple #[.agg #[.int .i64 17, .int .i64 0, .int .i64 0, .int .i64 0, .string ⟨#[]⟩, .int .i64 0, .string ⟨#[]⟩, .slice A 3 c], .int .i64 0, .int .i64 0]) /\ Lie (fun _ => True) w' A exC.ks /\ Bel w w' from Qfs Qu3 (by decide) w hm)
 have CE := fun (W : World) A c B hL hB => Qc1 lsC (by decide) (fun b hb => by rw [List.mem_singleton.1 hb]; exact (by decide : (0 : Nat) <= 9223372036854775807)) exC A c (some ⟨B, 0, none⟩) 1 W (Qss Qu3) hL hB
 rw [Qxe] at CE
 have CE := Hd (show ∀ (W : World) A c B, Lie (fun _ => True) W A exC.ks -> Bnds W (some ⟨B, 0, none⟩) lsC -> Calls Tryz.prog 12 #[.agg #[.int .i64 17, .int .i64 0, .int .i64 0, .int .i64 0, .string ⟨#[]⟩, .int .i64 0, .string ⟨#[]⟩, .slice A 3 c], .slice (some ⟨B, 0, none⟩) 1 1] W fun e w' => e = .returned (.tuple #[.agg #[.int .i64 1, .int .i64 75, .int .i64 1, .string ⟨#[]⟩, .int .i64 0], .int .i64 0]) /\ Bel W w' from CE)
 have z1 := Qhb ⟨1, 75, 1, ⟨#[]⟩, 0⟩
 clear hm
 go_enter Tryz.func11, Tryz.ntmps11
 go_upto_region 2 with (go_at_call 14; (with_reducible refine Calls.mono CP.out ?_); rintro e V1 ⟨A, c, rfl, hT, hb1⟩; have hT := Hd hT; have hb1 := Hd hb1)
 refine uN (w0 := V1) (by exact Bel.y) fun W hcc hf hz hb => ?_
 have T : Qab W V1.heap.size 17 ⟨0, 0, 0, ⟨#[]⟩, 0⟩ ⟨#[]⟩ A 3 c := by simp [Qab, Qap, hcc, hf, hz, go_sem]
 clear hcc hf hz
 have hT2 := Hd (hT.out.keep hb)
 have hq := Hd (hb1.out.trans hb)
 clear hb
 generalize V1.heap.size = N at T
 have K := Hd T
 obtain ⟨tz, ⟨t0, t1, t2, t3, t4, t5, t6, t7⟩, ⟨tf0, tf1, tf2, tf3, tf4, tf5, tf6, tf7⟩⟩ := T
 simp only [Nat.zero_add] at t0 t1 t2 t3 t4 t5 t6 t7
 go_upto_region 3 with (go_at_call 12; (with_reducible refine Calls.mono (CE.out _ _ _ _ (hT2.out.keep ((Bel.refl _).alloc _)) (Qwo W)) ?_); rintro e V2 ⟨rfl, hb2⟩; have hb2 := Hd (((Bel.refl _).alloc _).trans hb2); clear tz t0 t1 t2 t3 t4 t5 t6 t7 tf0 tf1 tf2 tf3 tf4 tf5 tf6 tf7)
 go_wp2_with fail
 go_ret
 exact ⟨rfl, by have h1 := hq.out; have h2 := hb2.out; exact Bel.y⟩
end
end Go.Proofs.YtjckpkamhdbcnaaGreatDoor
