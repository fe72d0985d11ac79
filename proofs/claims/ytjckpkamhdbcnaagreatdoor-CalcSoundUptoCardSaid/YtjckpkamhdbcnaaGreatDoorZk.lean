import Derived.Test.YtjckpkamhdbcnaaGreatDoorZj
import Derived.Shelf.Strings.BuilderX
import Derived.Lib.Hide
namespace Go.Proofs.YtjckpkamhdbcnaaGreatDoor
set_option maxRecDepth 100000
set_option maxHeartbeats 64000000
set_option linter.unusedSimpArgs false
set_option linter.unusedVariables false
section
open Go.RowKit Go.Shelf
def renB : Ren := ⟨fun n => n, fun | 5 => 5 | 72 => 187 | 70 => 184 | 37 => 185 | n => n, fun n => n⟩
theorem extraAR : Builder.Extra Tryz.prog renB := {
 sizeBuilder := by kernel_rfl
 liesBuilder := by kernel_rfl
 t5 := Tryz.underlying5
 a5 := Tryz.isAgg5
 z5 := Tryz.sizeOf5
 v5 := Tryz.zeroValue5
 infoByte := by kernel_rfl
 cellsByte := by kernel_rfl
 sizeByte := by kernel_rfl
 neB5 := by decide }
theorem Qfz (b : Nat) (w : World) (h0 : w.cell? ⟨b, 0, none⟩ = some (.pointer (some ⟨b, 0, none⟩))) :
  Calls Tryz.prog 188 #[.pointer (some ⟨b, 0, none⟩)] w fun e w' => e = .returned (.tuple #[]) /\ w' = w := by
 obtain ⟨j, hj, _⟩ := Option.map_eq_some_iff.1 extraAR.sizeBuilder
 go_enter Tryz.func188, Tryz.ntmps188
 go_wp2
 rw [Lib.run_neq_ptr_same w _ Tryz.underlying184 hj]
 go_wp2
 go_end0
 exact ⟨rfl, rfl⟩
theorem Qfm (b : Nat) (w : World) (h0 : w.cell? ⟨b, 0, none⟩ = some (.pointer none)) (hsh : w.shape? b = some (187, 2)) (hfz : w.frozen? ⟨b, 0, none⟩ = false) :
  Calls Tryz.prog 188 #[.pointer (some ⟨b, 0, none⟩)] w fun e w' => e = .returned (.tuple #[]) /\ w' = w.setCell ⟨b, 0, none⟩ (.pointer (some ⟨b, 0, none⟩)) := by
 obtain ⟨j, hj, hjs⟩ := Option.map_eq_some_iff.1 extraAR.sizeBuilder
 go_enter Tryz.func188, Tryz.ntmps188
 go_wp2
 rw [Lib.run_to_unsafe w ⟨b, 0, none⟩ Tryz.underlying184 Tryz.underlying213 hj (by rw [hjs]; decide) hsh (Nat.zero_lt_succ 1)]
 simp only [Result.andThen]
 rw [Oper.upon_value]
 go_wp2
 rw [run_callFunc_extern Tryz.func205 (by kernel_rfl) (by kernel_rfl) (by kernel_rfl) (e := Extern.AbiNoEscape.same) (by kernel_rfl)]
 rw [Lib.run_noEscape]
 simp only [Result.andThen]
 rw [Oper.upon_value]
 go_wp2
 rw [Lib.run_from_unsafe w ⟨b, 0, none⟩ Tryz.underlying213 Tryz.underlying184 hj hsh extraAR.liesBuilder]
 simp only [Result.andThen]
 rw [Oper.upon_value]
 go_wp2
 go_end0
 exact ⟨rfl, rfl⟩
theorem Qgu (B b : Nat) (bs : List Value) (w : World) (h : Lib.IsBuilderF 187 5 B b bs w) :
  Calls Tryz.prog 188 #[.pointer (some ⟨b, 0, none⟩)] w fun e w' => e = .returned (.tuple #[]) /\ (Lib.BuilderAtF 187 5 B b (.pointer (some ⟨b, 0, none⟩)) bs w' /\ Below B w w' /\ Lib.OthersKept 5 (some b) w w') := by
 rcases h with h | h
 ·refine (Qfm b w h.cell0 h.shape h.frozen0).mono ?_
  rintro e w' ⟨rfl, rfl⟩
  exact ⟨rfl, h.used _, (Below.refl B w).setCell (p := ⟨b, 0, none⟩) h.1 _, (Lib.OthersKept.refl _ _ w).setCell ⟨b, 0, none⟩ rfl _⟩
 refine (Qfz b w h.cell0).mono ?_
 rintro e w' ⟨rfl, rfl⟩
 exact ⟨rfl, h, Below.refl B _, Lib.OthersKept.refl _ _ _⟩
theorem Qgv (B b : Nat) (bs : List Value) (c : Int) (w : World) (h : Lib.IsBuilderF 187 5 B b bs w) (hlen : bs.length + 1 <= 140737488355328) (hBw : B <= w.heap.size) :
  Calls Tryz.prog 169 #[.pointer (some ⟨b, 0, none⟩), .int .u8 c] w fun e w' => e = .returned .nilIface /\ (Lib.BuilderAtF 187 5 B b (.pointer (some ⟨b, 0, none⟩)) (bs ++ [.int .u8 c]) w' /\ Below B w w' /\ Lib.OthersKept 5 (some b) w w') := by
 obtain ⟨i0, hi, hz0, hz1, hz2⟩ := info_parts extraAR.infoByte
 go_enter Tryz.func169, Tryz.ntmps169
 go_wp2_with (go_at_call 188; refine (Qgu B b bs _ h).mono ?_)
 rintro e w1 ⟨rfl, h1, hb1, hk1⟩
 obtain ⟨hB, v, hbk, hown, hne⟩ := h1
 have c0 : w1.cell? ⟨b, 0, none⟩ = some (.pointer (some ⟨b, 0, none⟩)) := by rw [Lib.cell_of_heap hbk]; rfl
 have c1 : w1.cell? ⟨b, 1, none⟩ = some v := by rw [Lib.cell_of_heap hbk]; rfl
 go_wp2_with (at_builtin; refine wpList_append_ownF _ rfl _ _ 185 rfl B 5 i0 (.int .u8 0) 1 1 Tryz.underlying185 hi hz0 hz1 hz2 rfl (by decide) _ _ _ rfl (hown.alloc _) ⟨w1.heap.size, 0, none⟩ 1 1 [.int .u8 c] rfl rfl ?c1 ?c2 ?c3 ?c4 ?c5 ?_)
 case c1 =>
  intro j u hj
  match j, hj with
  | 0, hj => simp at hj; subst hj; simp [Addr.add]
 case c2 => intro u hu; simp at hu; subst hu; rfl
 case c3 => unfold maxLen; omega
 case c4 => omega
 case c5 => have := hb1.size; simp; omega
 intro v' w2 hown' hgrow _
 have hlt : b < w1.heap.size := by
  rcases Nat.lt_or_ge b w1.heap.size with h' | h'
  ·exact h'
  simp [Array.getElem?_eq_none h'] at hbk
 have hb2 : w2.heap[b]? = some (.cells #[.pointer (some ⟨b, 0, none⟩), v] 187 (0, 0)) := by
  rw [hgrow.block b (by simp; omega) (fun e => hne e.symm), Lib.alloc_old w1 _ b hlt]
  exact hbk
 have d0 : w2.cell? ⟨b, 0, none⟩ = some (.pointer (some ⟨b, 0, none⟩)) := by rw [Lib.cell_of_heap hb2]; rfl
 have d1 : w2.cell? ⟨b, 1, none⟩ = some v := by rw [Lib.cell_of_heap hb2]; rfl
 have f1 : w2.frozen? ⟨b, 1, none⟩ = false := Lib.frozen_of_heap hb2 1
 obtain ⟨g, cap, rfl⟩ : ∃ g cap, v' = .slice (some ⟨g, 0, none⟩) (bs.length + 1) cap := by
  rcases hown'.2 with ⟨_, h0⟩ | ⟨g, cap, cur, fz, hv, _⟩
  ·omega
  exact ⟨g, cap, hv⟩
 go_wp2
 go_ret
 refine ⟨rfl, ?_, ?_, ((hk1.alloc _).grown hgrow (Lib.ownsRowF_kind (hown.alloc _))).setCell ⟨b, 1, none⟩ rfl _⟩
 ·exact Lib.BuilderAtF.put (T := 187) (e := 5) hB hb2 (bs' := bs ++ [.int .u8 c]) (by simpa using hown') extraAR.neB5
 exact ((hb1.alloc (by have := hb1.size; omega) _).grown hgrow (by have := hb1.size; simp; omega) (fun k hk => (hown.lt k hk).1)).setCell (p := ⟨b, 1, none⟩) hB _
abbrev Bld (w0 : World) (b : Nat) (l : List UInt8) (w : World) : Prop := Lib.IsBuilderF 187 5 w0.heap.size b (Lib.byteCells l) w
abbrev Oth (b : Nat) (w w' : World) : Prop := Lib.OthersKept 5 (some b) w w'
theorem Qfn {w0 w : World} {b : Nat} {l : List UInt8} (hI : Bld w0 b l w) (hb : Bel w0 w) (c : UInt8) (hl : l.length <= 100000000000000) :
  Calls Tryz.prog 169 #[.pointer (some ⟨b, 0, none⟩), .int .u8 (c.toNat : Nat)] w fun e w' => e = .returned .nilIface /\ (Bld w0 b (l ++ [c]) w' /\ Bel w0 w' /\ Oth b w w') := by
 have h := Qgv w0.heap.size b (Lib.byteCells l) (c.toNat : Nat) w hI (by rw [Lib.byteCells_length]; omega) hb.size
 refine h.mono fun e w' ⟨h1, h2, h3, h4⟩ => ⟨h1, ?_, Below.trans hb h3, h4⟩
 have e : Lib.byteCells l ++ [.int .u8 (c.toNat : Nat)] = Lib.byteCells (l ++ [c]) := by
  rw [Lib.byteCells_append]; rfl
 rw [e] at h2
 exact .inr h2
end
section
open Go.RowKit
theorem u8n {c : UInt8} {k : UInt8} (h : c ≠ k) : ((c.toNat : Int) == (k.toNat : Int)) = false := by
 rw [bN]
 intro e
 exact h (UInt8.toNat_inj.1 (Int.ofNat.inj e))
theorem Qgw (s : ByteArray) (i : Nat) (h : i < s.size) : s.data.toList.drop i = s[i] :: s.data.toList.drop (i + 1) := by
 rw [List.drop_eq_getElem_cons (by rw [Qag]; exact h)]
 rfl
theorem Qtw (acc r : List UInt8) : strL acc (34 :: r) = some (acc, r) := by
 unfold strL
 rw [iP rfl]
theorem Qqn (acc r : List UInt8) (d : UInt8) (h : d = 34 \/ d = 92) : strL acc (92 :: d :: r) = strL (acc ++ [d]) r := by
 conv => lhs; unfold strL
 rw [iN (by decide), iP rfl]
 simp only
 rw [iP h]
theorem Qqo (acc r : List UInt8) (d : UInt8) (h : ¬ (d = 34 \/ d = 92)) : strL acc (92 :: d :: r) = none := by
 unfold strL
 rw [iN (by decide), iP rfl]
 simp only
 rw [iN h]
theorem Qqp (acc : List UInt8) : strL acc [92] = none := by
 unfold strL
 rw [iN (by decide), iP rfl]
theorem Qli (acc r : List UInt8) (c : UInt8) (h1 : c ≠ 34) (h2 : c ≠ 92) : strL acc (c :: r) = strL (acc ++ [c]) r := by
 conv => lhs; unfold strL
 rw [iN h1, iN h2]
theorem Qnk {l : List UInt8} (h : strL [] (l.drop 1) = none) : firV l (strT l) = firV [] (.bad 5) := by
 unfold strT
 rw [h]
 rfl
theorem Qqq {l x r : List UInt8} (h : strL [] (l.drop 1) = some (x, r)) (ho : strOk x = false) : firV l (strT l) = firV [] (.bad 5) := by
 unfold strT
 rw [h]
 simp only
 rw [iN (by rw [ho]; simp)]
 rfl
theorem Qnl {l x r : List UInt8} (h : strL [] (l.drop 1) = some (x, r)) (ho : strOk x = true) : firV l (strT l) = .tuple #[.agg #[.int .i64 2, .int .i64 0, .string (Qaa x), .int .i64 0, .int .i64 0, .int .i64 0], .int .i64 ((l.length - r.length : Nat) : Int), .int .i64 0] := by
 unfold strT
 rw [h]
 simp only
 rw [iP ho]
 rfl
theorem Qkc (x : List UInt8) : ksnd ⟨2, 0, x, 0, 0, 0⟩ = strOk x := by
 rw [tsnd2, Qbl.2 ⟨rfl, rfl, rfl, rfl, rfl, rfl⟩, Bool.true_and]
theorem Qkd {W w : World} {b : Nat} {l : List UInt8} (hI : Bld W b l w) (hb : Bel W w) : Calls Tryz.prog 167 #[.pointer (some ⟨b, 0, none⟩)] w fun e w' => e = .returned (.string (Qaa l)) /\ (Bld W b l w' /\ Bel W w' /\ Oth b w w') :=
 (Tryz.Builder_String_any_k W.heap.size b l _ hI hb.size).mono fun e w' ⟨h1, h2, h3, h4⟩ => ⟨h1, h2, Below.trans hb h3, h4⟩
theorem Qiy (s : ByteArray) (hs : s.size <= 65536) (h0 : 1 <= s.size) (w : World) :
  Calls Tryz.prog 132 #[.string s] w fun e w' => e = .returned (firV s.data.toList (strT s.data.toList)) /\ Bel w w' := by
 obtain ⟨FV, hFV⟩ : ∃ FV, FV = firV s.data.toList (strT s.data.toList) := ⟨_, rfl⟩
 rw [← hFV]
 have F0 := Hd fun (h : strL [] (s.data.toList.drop 1) = none) => hFV.trans (Qnk h)
 have F1 := Hd fun (x r : List UInt8) (h : strL [] (s.data.toList.drop 1) = some (x, r)) (ho : strOk x = false) => hFV.trans (Qqq h ho)
 have F2 := Hd fun (x r : List UInt8) (h : strL [] (s.data.toList.drop 1) = some (x, r)) (ho : strOk x = true) => hFV.trans (Qnl h ho)
 clear hFV
 obtain ⟨R, hR⟩ : ∃ R, R = strL [] (s.data.toList.drop 1) := ⟨_, rfl⟩
 rw [← hR] at F0 F1 F2
 have HR := Hd hR
 clear hR
 have hsi : (s.size : Int) <= 65536 := by omega
 go_enter Tryz.func132, Tryz.ntmps132
 go_upto_region 1 with fail
 refine uN ((Bel.refl w).alloc _) fun W hc hf hz hb => ?_
 have T : Qan W w.heap.size tokZ := by simp [Qan, tokZ, Qaa, hc, hf, hz, go_sem]
 clear hc hf hz
 generalize hN : w.heap.size = N at T ⊢
 have BN := Hd (show w.heap.size <= N from by omega)
 have HB := Hd hb
 clear hN hb
 go_wp2_with fail
 go_loopg [6] s.size (fun g iv wr => ∃ (i : Nat) (acc : List UInt8), iv = .int .i64 i /\ i <= s.size /\ acc.length <= i /\ Hid (g = s.size + 1 - i) /\ Hid (strL acc (s.data.toList.drop i) = R) /\ Hid (Bld W W.heap.size acc wr) /\ Hid (Bel W wr))
 case atStart => exact ⟨1, [], rfl, h0, Nat.zero_le _, Hd (by omega), Hd HR.out.symm, Hd (Lib.IsBuilderF.of (Lib.fresh_isBuilder 187 5 W)), Hd ((Bel.refl W).alloc _)⟩
 case round =>
  obtain ⟨i, acc, rfl, hi, hac, hg, hS, hI, hb⟩ := hrel
  have i0 : (0 : Int) <= (i : Int) := by omega
  have hii : (i : Int) <= 65536 := by omega
  by_cases hlt : i < s.size
  ·have hd := Qgw s i hlt
   have w1 : IntKind.i64.wrap ((i : Int) + 1) = (i : Int) + 1 := by rw [IntKind.wrap_i64]; omega
   by_cases c34 : s[i] = 34
   ·rw [c34] at hd
    have e34 : ((s[i].toNat : Int) == 34) = true := by rw [c34]; rfl
    have e34' : (s[i].toNat : Int) = 34 := by rw [c34]; rfl
    have HRR := Hd (show R = some (acc, s.data.toList.drop (i + 1)) from by rw [← hS.out, hd, Qtw])
    have CS := Hd fun W' => Qlh ⟨2, 0, acc, 0, 0, 0⟩ (by simp only; omega) W'
    rw [Qkc] at CS
    have LE := Hd (show s.data.toList.length - (s.data.toList.drop (i + 1)).length = i + 1 from by rw [List.length_drop, Qag]; omega)
    clear hd c34
    cases ho : strOk acc with
    | true =>
     have FQ := Hd (F2.out _ _ HRR.out ho)
     rw [LE.out] at FQ
     rw [ho] at CS
     obtain rfl := FQ.out
     clear ho FQ
     go_wp2_with (first
      | (go_at_call 167; refine (Qkd hI.out hb.out).mono ?_; rintro e W3 ⟨rfl, _, hb3, _⟩; have hq3 := Hd hb3; clear hb3)
      | (go_at_call 168; refine (CS.out _).mono ?_; rintro e W4 ⟨rfl, hb4⟩; have hq4 := Hd ((hq3.out.alloc _).trans hb4); have hN4 := hb4.lt1; have hc4 := hb4.cells; obtain ⟨t0, ⟨t1, t2, t3, t4, t5, t6⟩, ⟨g1, g2, g3, g4, g5, g6⟩⟩ := T.keep hq4.out; simp only [tokZ] at t1 t2 t3 t4 t5 t6))
     refine pR (v := .tuple #[.agg #[.int .i64 2, .int .i64 0, .string (Qaa acc), .int .i64 0, .int .i64 0, .int .i64 0], .int .i64 ((i : Int) + 1), .int .i64 0]) (by simp [results, Tryz.results132, go_sem, t0, t1, t2, t3, t4, t5, t6]) rfl ⟨rfl, ?_⟩
     have hN := BN.out
     have hq := HB.out.trans hq4.out
     exact Bel.y
    | false =>
     have FQ := Hd (F1.out _ _ HRR.out ho)
     rw [ho] at CS
     obtain rfl := FQ.out
     clear ho FQ
     go_wp2_with (first
      | (go_at_call 167; refine (Qkd hI.out hb.out).mono ?_; rintro e W3 ⟨rfl, _, hb3, _⟩; have hq3 := Hd hb3; clear hb3)
      | (go_at_call 168; refine (CS.out _).mono ?_; rintro e W4 ⟨rfl, hb4⟩; have hq4 := Hd ((hq3.out.alloc _).trans hb4); have hN4 := hb4.lt1; have hc4 := hb4.cells; obtain ⟨t0, ⟨t1, t2, t3, t4, t5, t6⟩, ⟨g1, g2, g3, g4, g5, g6⟩⟩ := T.keep hq4.out; simp only [tokZ] at t1 t2 t3 t4 t5 t6))
     refine pR (v := .tuple #[.agg #[.int .i64 0, .int .i64 0, .string ⟨#[]⟩, .int .i64 0, .int .i64 0, .int .i64 0], .int .i64 0, .int .i64 5]) (by simp [results, Tryz.results132, go_sem, t0, t1, t2, t3, t4, t5, t6]) rfl ⟨rfl, ?_⟩
     have hN := BN.out
     have hq := HB.out.trans hq4.out
     exact Bel.y
   have e34 : ((s[i].toNat : Int) == 34) = false := u8n c34
   by_cases c92 : s[i] = 92
   ·rw [c92] at hd
    have e92 : ((s[i].toNat : Int) == 92) = true := by rw [c92]; rfl
    have e92' : (s[i].toNat : Int) = 92 := by rw [c92]; rfl
    by_cases hz : i + 1 = s.size
    ·have HRR := Hd (show R = none from by rw [← hS.out, hd, List.drop_of_length_le (by rw [Qag]; omega), Qqp])
     have FQ := Hd (F0.out HRR.out)
     obtain rfl := FQ.out
     have ez : ((i : Int) + 1 == s.size) = true := by rw [beq_iff_eq]; omega
     clear hd c92 c34 FQ
     obtain ⟨t0, ⟨t1, t2, t3, t4, t5, t6⟩, ⟨g1, g2, g3, g4, g5, g6⟩⟩ := T.keep hb.out
     simp only [tokZ] at t1 t2 t3 t4 t5 t6
     go_wp2_with fail
     refine pR (v := .tuple #[.agg #[.int .i64 0, .int .i64 0, .string ⟨#[]⟩, .int .i64 0, .int .i64 0, .int .i64 0], .int .i64 0, .int .i64 5]) (by simp [results, Tryz.results132, go_sem, t0, t1, t2, t3, t4, t5, t6]) rfl ⟨rfl, ?_⟩
     have hN := BN.out
     have hq := HB.out.trans hb.out
     exact Bel.y
    have hlt1 : i + 1 < s.size := by omega
    have hd1 := Qgw s (i + 1) hlt1
    have ez : ((i : Int) + 1 == s.size) = false := by rw [bN]; omega
    have ilt : (i : Int) + 1 < s.size := by omega
    have w2 : IntKind.i64.wrap ((i : Int) + 1 + 1) = (i : Int) + 1 + 1 := by rw [IntKind.wrap_i64]; omega
    by_cases hd34 : s[i + 1] = 34 \/ s[i + 1] = 92
    ·have SN := Hd (show strL (acc ++ [s[i + 1]]) (s.data.toList.drop (i + 1 + 1)) = R from by rw [← hS.out, hd, hd1, Qqn _ _ _ hd34])
     clear hd hd1 c92 c34
     rcases hd34 with hk | hk
     ·have f34 : ((s[i + 1].toNat : Int) == 34) = true := by rw [hk]; rfl
      have f34' : (s[i + 1].toNat : Int) = 34 := by rw [hk]; rfl
      have n34 : ((s[i + 1].toNat : Int) != 34) = false := by rw [hk]; rfl
      have CW := Hd (Qfn hI.out hb.out s[i + 1] (by omega))
      have e3 := Hd (show (s[i + 1].toNat : Int) = 34 from by rw [hk]; rfl)
      clear hk
      go_wp2_with (go_at_call 169; (try rw [← e3.out]); refine (CW.out).mono ?_; rintro e W3 ⟨rfl, hI3, hb3, ho3⟩)
      go_roundg (s.size + 1 - (i + 1 + 1))
      case measure => have := hg.out; omega
      case rel => exact ⟨i + 1 + 1, acc ++ [s[i + 1]], by go_num, by omega, by rw [lA]; simp; omega, Hd rfl, SN, Hd hI3, Hd hb3⟩
     have f34 : ((s[i + 1].toNat : Int) == 34) = false := u8n (k := 34) (by rw [hk]; decide)
     have n34 : ((s[i + 1].toNat : Int) != 34) = true := by rw [hk]; rfl
     have n92 : ((s[i + 1].toNat : Int) != 92) = false := by rw [hk]; rfl
     have f92 : ((s[i + 1].toNat : Int) == 92) = true := by rw [hk]; rfl
     have f92' : (s[i + 1].toNat : Int) = 92 := by rw [hk]; rfl
     have CW := Hd (Qfn hI.out hb.out s[i + 1] (by omega))
     have e3 := Hd (show (s[i + 1].toNat : Int) = 92 from by rw [hk]; rfl)
     clear hk
     go_wp2_with (go_at_call 169; (try rw [← e3.out]); refine (CW.out).mono ?_; rintro e W3 ⟨rfl, hI3, hb3, ho3⟩)
     go_roundg (s.size + 1 - (i + 1 + 1))
     case measure => have := hg.out; omega
     case rel => exact ⟨i + 1 + 1, acc ++ [s[i + 1]], by go_num, by omega, by rw [lA]; simp; omega, Hd rfl, SN, Hd hI3, Hd hb3⟩
    have HRR := Hd (show R = none from by rw [← hS.out, hd, hd1, Qqo _ _ _ hd34])
    have FQ := Hd (F0.out HRR.out)
    obtain rfl := FQ.out
    have f34 : ((s[i + 1].toNat : Int) == 34) = false := u8n (fun h => hd34 (.inl h))
    have f92 : ((s[i + 1].toNat : Int) == 92) = false := u8n (fun h => hd34 (.inr h))
    have n34 : ((s[i + 1].toNat : Int) != 34) = true := by unfold bne; rw [f34]; rfl
    have n92 : ((s[i + 1].toNat : Int) != 92) = true := by unfold bne; rw [f92]; rfl
    clear hd hd1 c92 c34 FQ hd34
    obtain ⟨t0, ⟨t1, t2, t3, t4, t5, t6⟩, ⟨g1, g2, g3, g4, g5, g6⟩⟩ := T.keep hb.out
    simp only [tokZ] at t1 t2 t3 t4 t5 t6
    go_wp2_with fail
    refine pR (v := .tuple #[.agg #[.int .i64 0, .int .i64 0, .string ⟨#[]⟩, .int .i64 0, .int .i64 0, .int .i64 0], .int .i64 0, .int .i64 5]) (by simp [results, Tryz.results132, go_sem, t0, t1, t2, t3, t4, t5, t6]) rfl ⟨rfl, ?_⟩
    have hN := BN.out
    have hq := HB.out.trans hb.out
    exact Bel.y
   have e92 : ((s[i].toNat : Int) == 92) = false := u8n c92
   have SN := Hd (show strL (acc ++ [s[i]]) (s.data.toList.drop (i + 1)) = R from by rw [← hS.out, hd, Qli _ _ _ c34 c92])
   clear hd c92 c34
   go_wp2_with (go_at_call 169; refine (Qfn hI.out hb.out s[i] (by omega)).mono ?_; rintro e W3 ⟨rfl, hI3, hb3, ho3⟩)
   go_roundg (s.size + 1 - (i + 1))
   case measure => have := hg.out; omega
   case rel => exact ⟨i + 1, acc ++ [s[i]], by go_num, by omega, by rw [lA]; simp; omega, Hd rfl, SN, Hd hI3, Hd hb3⟩
  obtain rfl : i = s.size := by omega
  have HRR := Hd (show R = none from by rw [← hS.out, List.drop_of_length_le (by rw [Qag]; exact Nat.le_refl _)]; rfl)
  have FQ := Hd (F0.out HRR.out)
  obtain rfl := FQ.out
  clear FQ
  obtain ⟨t0, ⟨t1, t2, t3, t4, t5, t6⟩, ⟨g1, g2, g3, g4, g5, g6⟩⟩ := T.keep hb.out
  simp only [tokZ] at t1 t2 t3 t4 t5 t6
  go_wp2_with fail
  refine pR (v := .tuple #[.agg #[.int .i64 0, .int .i64 0, .string ⟨#[]⟩, .int .i64 0, .int .i64 0, .int .i64 0], .int .i64 0, .int .i64 5]) (by simp [results, Tryz.results132, go_sem, t0, t1, t2, t3, t4, t5, t6]) rfl ⟨rfl, ?_⟩
  have hN := BN.out
  have hq := HB.out.trans hb.out
  exact Bel.y
end
end Go.Proofs.YtjckpkamhdbcnaaGreatDoor
