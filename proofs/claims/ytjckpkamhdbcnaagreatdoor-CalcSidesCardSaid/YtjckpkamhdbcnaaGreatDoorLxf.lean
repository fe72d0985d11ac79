import Derived.Test.YtjckpkamhdbcnaaGreatDoorLxe
import Derived.Test.YtjckpkamhdbcnaaGreatDoorLxp
import Derived.Shelf.Strings.SlTrimAscii
namespace Go.Proofs.YtjckpkamhdbcnaaGreatDoor
set_option linter.unusedSimpArgs false
set_option linter.unusedVariables false
open Go.RowKit
/-! The reader of tokens: white, names. -/
theorem ws_is : (fun c => [(9 : UInt8), 10, 13, 32].contains c) = wsB := by
 funext c
 unfold wsB
 rw [Bool.eq_iff_iff]
 simp [or_assoc]
 constructor <;> (rintro (h | h | h | h) <;> simp [h])
theorem trim_any (z : ByteArray) (w : World) : Calls Tryz.prog 129 #[.string z, .string ⟨#[9, 10, 13, 32]⟩] w fun r w' => r = .returned (.string (bytesOf (z.data.toList.dropWhile wsB))) ∧ Bel w w' := by
 have h := Any.strings_TrimLeft_laid Tryz.lays161 (by kernel_rfl) z ⟨#[9, 10, 13, 32]⟩ w (by decide) (ascii_of_all (by decide))
 refine h.mono fun r w' ⟨hr, hb⟩ => ⟨?_, hb⟩
 rw [hr]
 have e : Lib.trimLeftS z.data.toList (⟨#[9, 10, 13, 32]⟩ : ByteArray).data.toList = z.data.toList.dropWhile wsB := by
  unfold Lib.trimLeftS
  exact congrArg (fun f => z.data.toList.dropWhile f) ws_is
 rw [e]
 rfl
set_option maxRecDepth 100000 in
theorem xskip_any (s : ByteArray) (p : Nat) (hp : p ≤ s.size) (hs : s.size ≤ 65536) (w : World) :
  Calls Tryz.prog 88 #[.string s, .int .i64 (p : Nat)] w fun e w' => e = .returned (.int .i64 ((s.size - ((s.data.toList.drop p).dropWhile wsB).length : Nat) : Int)) ∧ Bel w w' := by
 have hl := tw_lens wsB (s.data.toList.drop p)
 rw [List.length_drop, size_list] at hl
 have C := Lib.hid fun w => trim_any (s.extract p s.size) w
 rw [ext_end] at C
 generalize (s.data.toList.drop p).dropWhile wsB = x at *
 have hsz : (bytesOf x).size = x.length := bytesOf_size x
 have D := Lib.hid (show (s.size : Int) - (x.length : Int) = ((s.size - x.length : Nat) : Int) from by omega)
 have hpi : (p : Int) ≤ s.size := by omega
 have hxi : (x.length : Int) ≤ s.size := by omega
 have hsi : (s.size : Int) ≤ 65536 := by omega
 clear hl
 go_enter Tryz.func88, Tryz.ntmps88
 go_wp2_with (go_at_call 129; refine (C.out _).mono ?_; rintro e W1 ⟨rfl, hb1⟩)
 go_ret
 exact ⟨by rw [← D.out] <;> rfl, hb1⟩
/-- A block that holds a token, free for stores. -/
def TSlot (w : World) (b : Nat) (t : Tok) : Prop := b < w.heap.size ∧
 (w.cell? ⟨b, 0, none⟩ = some (.int .i64 t.kind) ∧ w.cell? ⟨b, 1, none⟩ = some (.int .i64 t.pos) ∧ w.cell? ⟨b, 2, none⟩ = some (.string (bytesOf t.text)) ∧ w.cell? ⟨b, 3, none⟩ = some (.int .i64 t.dn) ∧ w.cell? ⟨b, 4, none⟩ = some (.int .i64 t.ds) ∧ w.cell? ⟨b, 5, none⟩ = some (.int .i64 t.day)) ∧
 (w.frozen? ⟨b, 0, none⟩ = false ∧ w.frozen? ⟨b, 1, none⟩ = false ∧ w.frozen? ⟨b, 2, none⟩ = false ∧ w.frozen? ⟨b, 3, none⟩ = false ∧ w.frozen? ⟨b, 4, none⟩ = false ∧ w.frozen? ⟨b, 5, none⟩ = false)
theorem TSlot.keep {w w' : World} {b : Nat} {t : Tok} (h : TSlot w b t) (hb : Bel w w') : TSlot w' b t := by
 obtain ⟨h0, ⟨a0, a1, a2, a3, a4, a5⟩, ⟨f0, f1, f2, f3, f4, f5⟩⟩ := h
 have c := hb.cells b
 have f := hb.frozens b
 refine ⟨Nat.lt_of_lt_of_le h0 hb.size, ⟨?_, ?_, ?_, ?_, ?_, ?_⟩, ⟨?_, ?_, ?_, ?_, ?_, ?_⟩⟩
 all_goals first | (rw [c _ h0]; assumption) | (rw [f _ h0]; assumption)
def tokZ : Tok := ⟨0, 0, [], 0, 0, 0⟩
/-- What a reader of one token gives. -/
def firV (l : List UInt8) : TRes → Value
 | .bad e => .tuple #[.agg #[.int .i64 0, .int .i64 0, .string ⟨#[]⟩, .int .i64 0, .int .i64 0, .int .i64 0], .int .i64 0, .int .i64 (e : Nat)]
 | .ok r (some t) => .tuple #[.agg #[.int .i64 t.kind, .int .i64 t.pos, .string (bytesOf t.text), .int .i64 t.dn, .int .i64 t.ds, .int .i64 t.day], .int .i64 ((l.length - r.length : Nat) : Int), .int .i64 0]
 | .ok r none => .tuple #[.agg #[.int .i64 0, .int .i64 0, .string ⟨#[]⟩, .int .i64 0, .int .i64 0, .int .i64 0], .int .i64 0, .int .i64 5]
set_option maxRecDepth 100000 in
set_option maxHeartbeats 4000000 in
theorem xname_any (s : ByteArray) (hs : s.size ≤ 65536) (w : World) :
  Calls Tryz.prog 135 #[.string s] w fun e w' => e = .returned (firV s.data.toList (namT s.data.toList)) ∧ Bel w w' := by
 have hl := tw_lens nbB s.data.toList
 have ht := tw_take nbB s.data.toList
 have CR := Lib.hid fun W => runN_any s hs W
 have FV0 := Lib.hid (show nmOk (s.data.toList.takeWhile nbB) = false → firV s.data.toList (namT s.data.toList) = firV [] (.bad 5) from fun h => by unfold namT; rw [h]; rfl)
 have FV1 := Lib.hid (show nmOk (s.data.toList.takeWhile nbB) = true → firV s.data.toList (namT s.data.toList) = .tuple #[.agg #[.int .i64 4, .int .i64 0, .string (bytesOf (s.data.toList.takeWhile nbB)), .int .i64 0, .int .i64 0, .int .i64 0], .int .i64 ((s.data.toList.takeWhile nbB).length : Nat), .int .i64 0] from fun h => by
  unfold namT
  rw [if_pos h]
  simp only [firV]
  rw [show s.data.toList.length - (s.data.toList.dropWhile nbB).length = (s.data.toList.takeWhile nbB).length by omega])
 rw [size_list] at hl
 generalize firV s.data.toList (namT s.data.toList) = FV at *
 generalize s.data.toList.dropWhile nbB = y at *
 generalize s.data.toList.takeWhile nbB = nm at *
 have GX := Lib.hid (show s.extract 0 nm.length = bytesOf nm from by rw [ext_bytes, List.drop_zero, Nat.sub_zero, ht])
 have CN := Lib.hid fun W => name_any (bytesOf nm) (by rw [bytesOf_size]; omega) W
 have hi : (nm.length : Int) ≤ s.size := by omega
 have hi2 : nm.length ≤ s.size := by omega
 have hsi : (s.size : Int) ≤ 65536 := by omega
 have E := Lib.hid (show nmOk nm = nameB (bytesOf nm) from rfl)
 rw [← E.out] at CN
 clear hl ht E
 cases hq : nmOk nm with
 | false =>
  obtain rfl := FV0.out hq
  rw [hq] at CN
  clear hq FV0 FV1
  go_enter Tryz.func135, Tryz.ntmps135
  go_upto_region 1 with fail
  refine under_name ((Bel.refl w).alloc _) fun W hc hf hz hb => ?_
  have T : TSlot W w.heap.size tokZ := by simp [TSlot, tokZ, bytesOf, hc, hf, hz, go_sem]
  clear hc hf hz
  generalize hN : w.heap.size = N at T ⊢
  have BN := Lib.hid (show w.heap.size ≤ N from by omega)
  clear hN
  go_wp2_with (first
   | (go_at_call 165; refine (CR.out _).mono ?_; rintro e W1 ⟨rfl, hb1⟩)
   | (go_at_call 102; rw [GX.out]; refine (CN.out _).mono ?_; rintro e W2 ⟨rfl, hb2⟩; obtain ⟨t0, ⟨t1, t2, t3, t4, t5, t6⟩, ⟨g1, g2, g3, g4, g5, g6⟩⟩ := T.keep (hb1.trans hb2); simp only [tokZ] at t1 t2 t3 t4 t5 t6))
  refine bodyPost_ret (by simp [results, Tryz.results135, go_sem, t1, t2, t3, t4, t5, t6]; try rfl) rfl ⟨rfl, ?_⟩
  have hN := BN.out
  have hq1 := hb.trans (hb1.trans hb2)
  (with_reducible repeat first | exact Bel.refl _ | refine Bel.setCell ?_ (by first | exact Nat.le_refl _ | (dsimp only; omega)) _ | refine Bel.alloc ?_ _ | refine Bel.drew ?_ | assumption | refine Bel.trans ?_ (by assumption))
 | true =>
  obtain rfl := FV1.out hq
  rw [hq] at CN
  clear hq FV0 FV1
  go_enter Tryz.func135, Tryz.ntmps135
  go_upto_region 1 with fail
  refine under_name ((Bel.refl w).alloc _) fun W hc hf hz hb => ?_
  have T : TSlot W w.heap.size tokZ := by simp [TSlot, tokZ, bytesOf, hc, hf, hz, go_sem]
  clear hc hf hz
  generalize hN : w.heap.size = N at T ⊢
  have BN := Lib.hid (show w.heap.size ≤ N from by omega)
  clear hN
  go_wp2_with (first
   | (go_at_call 165; refine (CR.out _).mono ?_; rintro e W1 ⟨rfl, hb1⟩)
   | (go_at_call 102; rw [GX.out]; refine (CN.out _).mono ?_; rintro e W2 ⟨rfl, hb2⟩; obtain ⟨t0, ⟨t1, t2, t3, t4, t5, t6⟩, ⟨g1, g2, g3, g4, g5, g6⟩⟩ := T.keep (hb1.trans hb2); simp only [tokZ] at t1 t2 t3 t4 t5 t6))
  refine bodyPost_ret (by simp [results, Tryz.results135, go_sem, t1, t2, t3, t4, t5, t6]; try rfl) rfl ⟨by rw [GX.out], ?_⟩
  have hN := BN.out
  have hq1 := hb.trans (hb1.trans hb2)
  (with_reducible repeat first | exact Bel.refl _ | refine Bel.setCell ?_ (by first | exact Nat.le_refl _ | (dsimp only; omega)) _ | refine Bel.alloc ?_ _ | refine Bel.drew ?_ | assumption | refine Bel.trans ?_ (by assumption))
end Go.Proofs.YtjckpkamhdbcnaaGreatDoor
