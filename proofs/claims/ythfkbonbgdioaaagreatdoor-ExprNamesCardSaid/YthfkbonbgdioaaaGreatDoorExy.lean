import Derived.Test.YthfkbonbgdioaaaGreatDoorExx
namespace Go.Proofs.YthfkbonbgdioaaaGreatDoor
set_option linter.unusedSimpArgs false
set_option linter.unusedVariables false
open Go.RowKit
/-! An expression as a text: two kids, three kids; any. -/
theorem len2 {α : Type} : ∀ {l : List α}, l.length = 2 → ∃ a b, l = [a, b]
  | [a, b], _ => ⟨a, b, rfl⟩
theorem len3 {α : Type} : ∀ {l : List α}, l.length = 3 → ∃ a b c, l = [a, b, c]
  | [a, b, c], _ => ⟨a, b, c, rfl⟩
set_option maxRecDepth 100000 in
set_option maxHeartbeats 8000000 in
theorem write_two (x : Ex) (h4 : 4 ≤ x.op) (h15 : x.op ≤ 15) (IH : ∀ y ∈ x.ks, WrT y) (w0 w : World) (b : Nat) (l : List UInt8) (A : Option Addr) (c : Nat) (hL : Lie (fun _ => True) w0 A x.ks) (hI : Bld w0 b l w) (hb : Bel w0 w) (ht : Tab w0) (hm : Mx w0) (ho : okX x = true) (hs : smX x) (hl : l.length + (txX x).length ≤ 90000000000000) :
    Calls Tryz.prog 22 #[.pointer (some ⟨b, 0, none⟩), exV x.op x.v (bytesOf x.nm) A x.ks.length c] w fun r w' => r = .returned (.tuple #[]) ∧ Bld w0 b (l ++ txX x) w' ∧ Bel w0 w' ∧ Oth b w w' := by
  obtain ⟨xo, v, nm, ks⟩ := x
  replace h4 : 4 ≤ xo := h4
  replace h15 : xo ≤ 15 := h15
  have hpr := prt_out (show prtB xo v nm ks.length = true from by rw [okX, Bool.and_eq_true] at ho; exact ho.1)
  have hk2 : ks.length = 2 := by rw [hpr.2.2.1]; unfold kidN; rw [if_neg (by omega), if_neg (by omega), if_neg (by omega)]
  obtain ⟨y, z, rfl⟩ := len2 hk2
  rw [okX, okL, okL, Bool.and_eq_true, Bool.and_eq_true, Bool.and_eq_true] at ho
  have hoy : okX y = true := ho.2.1
  have hoz : okX z = true := ho.2.2.1
  have hsy : smX y := hs.2.2.1
  have hsz : smX z := hs.2.2.2.1
  have hT : txX (.mk xo v nm [y, z]) = brkT (decide (y.ks.length = 0), txX y) ++ ([32] ++ (sgX xo ++ ([32] ++ brkT (decide (z.ks.length = 0), txX z)))) := by rw [txX, txsX, txsX, txsX, shpT]
  obtain ⟨u1, hu1⟩ : ∃ u, brkT (decide (y.ks.length = 0), txX y) = u := ⟨_, rfl⟩
  obtain ⟨u2, hu2⟩ : ∃ u, brkT (decide (z.ks.length = 0), txX z) = u := ⟨_, rfl⟩
  have hsg : (sgX xo).length ≤ 3 := by
    unfold sgX
    repeat' split
    all_goals decide
  have CS := Lib.hid fun X => signOp_any xo h4 h15 X
  obtain ⟨sg, hsgx⟩ : ∃ sg, sgX xo = sg := ⟨_, rfl⟩
  rw [hsgx] at hsg CS hT
  rw [hu1, hu2] at hT
  rw [hT] at hl ⊢
  simp only [List.length_append, List.length_singleton] at hl
  obtain ⟨B, off, rfl, -, hBw, A1, c1, hE1, hL1⟩ := hL.get (q := 0) (x := y) rfl
  obtain ⟨B', off', hA', -, -, A2, c2, hE2, hL2⟩ := hL.get (q := 1) (x := z) rfl
  cases hA'
  show Calls Tryz.prog 22 #[.pointer (some ⟨b, 0, none⟩), .agg #[.int .i64 xo, .int .i64 v.kind, .int .i64 v.n, .int .i64 v.scale, .string v.text, .int .i64 v.num, .string (bytesOf nm), .slice (some ⟨B, off, none⟩) 2 c]] w _
  have hbw := bld_lt hI
  have HI := Lib.hid hI
  have HB := Lib.hid hb
  have HE1 := Lib.hid hE1
  have HE2 := Lib.hid hE2
  have C1 := Lib.hid fun X (hI : Bld w0 b l X) (hX : Bel w0 X) => writeKid_any y (IH y (by simp [Ex.ks])) w0 X b l A1 c1 hL1 hI hX ht hm hoy hsy (by rw [hu1]; omega)
  have C2 := Lib.hid fun X (hI : Bld w0 b (l ++ u1 ++ ([32] ++ (sg ++ [32]))) X) (hX : Bel w0 X) => writeKid_any z (IH z (by simp [Ex.ks])) w0 X b (l ++ u1 ++ ([32] ++ (sg ++ [32]))) A2 c2 hL2 hI hX ht hm hoz hsz (by rw [hu2]; simp only [List.length_append, List.length_singleton]; omega)
  rw [hu1] at C1
  rw [hu2] at C2
  have hcat : (⟨#[32]⟩ : ByteArray) ++ bytesOf sg ++ (⟨#[32]⟩ : ByteArray) = bytesOf ([32] ++ (sg ++ [32])) := by
    rw [show (⟨#[32]⟩ : ByteArray) = bytesOf [32] from rfl, bytes_app, bytes_app, List.append_assoc]
  have HS := Lib.hid fun X (hI : Bld w0 b (l ++ u1) X) (hX : Bel w0 X) => wstr_any hI hX ([32] ++ (sg ++ [32])) _ hcat (by simp only [List.length_append, List.length_singleton]; omega)
  have z1 : ((bytesOf sg).size : Int) ≤ 3 := by rw [bytesOf_size]; omega
  have z2 : (((⟨#[32]⟩ : ByteArray) ++ bytesOf sg).size : Int) ≤ 4 := by rw [ByteArray.size_append]; have : (⟨#[32]⟩ : ByteArray).size = 1 := rfl; omega
  have hn1 : ¬ xo = 1 := by omega
  have hn2 : ¬ xo = 2 := by omega
  have hn3 : ¬ xo = 3 := by omega
  have hn16 : ¬ xo = 16 := by omega
  have hn17 : ¬ xo = 17 := by omega
  have hfin : l ++ (u1 ++ ([32] ++ (sg ++ ([32] ++ u2)))) = l ++ u1 ++ ([32] ++ (sg ++ [32])) ++ u2 := by simp
  rw [hfin]
  have hBN : BoxAt (w.alloc (.cells #[.int .i64 xo, .int .i64 v.kind, .int .i64 v.n, .int .i64 v.scale, .string v.text, .int .i64 v.num, .string (bytesOf nm), .slice (some ⟨B, off, none⟩) 2 c] 28)) w.heap.size (.mk xo v nm [y, z]) (some ⟨B, off, none⟩) 2 c := box_new w (.mk xo v nm [y, z]) (some ⟨B, off, none⟩) 2 c
  have hbel := (Bel.refl w).alloc (.cells #[.int .i64 xo, .int .i64 v.kind, .int .i64 v.n, .int .i64 v.scale, .string v.text, .int .i64 v.num, .string (bytesOf nm), .slice (some ⟨B, off, none⟩) 2 c] 28)
  clear hL ht hm ho hs hI hb hpr hE1 hE2 hL1 hL2 hl hoy hoz hsy hsz IH hu1 hu2 hT hsgx hcat hk2 hfin h4 h15
  generalize bytesOf sg = sgb at CS HS z1 z2
  go_enter Tryz.func22, Tryz.ntmps22
  go_upto_region 1 with fail
  generalize hWW : w.alloc (.cells #[.int .i64 xo, .int .i64 v.kind, .int .i64 v.n, .int .i64 v.scale, .string v.text, .int .i64 v.num, .string (bytesOf nm), .slice (some ⟨B, off, none⟩) 2 c] 28) = W at hBN hbel ⊢
  generalize hN : w.heap.size = N at hBN ⊢
  have hNb : N ≠ b := by omega
  clear hN hWW
  have HO := Lib.hid (oth_bel (b := b) hbel)
  have HIW := Lib.hid (bld_keep HI.out hbel)
  have HBW := Lib.hid (HB.out.trans hbel)
  have HBN := Lib.hid hBN
  clear hBN hbel
  obtain ⟨k0, k1, k2, k3, k4, k5, k6, k7⟩ := HBN.out.cells
  simp only [Nat.zero_add, Ex.op, Ex.v, Ex.nm] at k0 k1 k2 k3 k4 k5 k6 k7
  obtain ⟨e0, e1, e2, e3, e4, e5, e6, e7⟩ := HE1.out.same (w' := W) fun o => (Bag.of (b := B + 1) HBW.out).cell (p := ⟨B, o, none⟩) hBw (by show B ≠ B + 1; omega)
  simp only [Nat.zero_mul, Nat.one_mul, Nat.add_zero, Nat.reduceMul] at e0 e1 e2 e3 e4 e5 e6 e7
  have D1 := Lib.hid (C1.out W HIW.out HBW.out)
  go_upto_region 3 with (go_at_call 40; (with_reducible refine Calls.mono D1.out ?_); rintro ee V1 ⟨rfl, hq1, hq2, hq3⟩; have I1 := Lib.hid hq1; have B1 := Lib.hid hq2; have O1 := Lib.hid (HO.out.trans hq3); have BN1 := Lib.hid (HBN.out.oth hq3 hNb); clear hq1 hq2 hq3)
  clear k0 k1 k2 k3 k4 k5 k6 k7
  clear e0 e1 e2 e3 e4 e5 e6 e7
  obtain ⟨k0, k1, k2, k3, k4, k5, k6, k7⟩ := BN1.out.cells
  simp only [Nat.zero_add, Ex.op, Ex.v, Ex.nm] at k0 k1 k2 k3 k4 k5 k6 k7
  have DS := Lib.hid fun X (hX : Bel V1 X) => HS.out X (bld_keep I1.out hX) (B1.out.trans hX)
  go_upto_region 4 with (first
    | (go_at_call 41; (with_reducible refine Calls.mono (CS.out _) ?_); rintro ee VS ⟨rfl, hbs⟩)
    | (go_at_call 39; (with_reducible refine Calls.mono (DS.out _ hbs) ?_); rintro ee V2 ⟨rfl, hq1, hq2, hq3⟩; have I2 := Lib.hid hq1; have B2 := Lib.hid hq2; have O2 := Lib.hid ((O1.out.trans (oth_bel (b := b) hbs)).trans hq3); have BN2 := Lib.hid ((BN1.out.keep hbs).oth hq3 hNb); clear hq1 hq2 hq3))
  clear k0 k1 k2 k3 k4 k5 k6 k7
  obtain ⟨k0, k1, k2, k3, k4, k5, k6, k7⟩ := BN2.out.cells
  simp only [Nat.zero_add, Ex.op, Ex.v, Ex.nm] at k0 k1 k2 k3 k4 k5 k6 k7
  obtain ⟨e0, e1, e2, e3, e4, e5, e6, e7⟩ := HE2.out.same (w' := V2) fun o => (Bag.of (b := B + 1) B2.out).cell (p := ⟨B, o, none⟩) hBw (by show B ≠ B + 1; omega)
  simp only [Nat.zero_mul, Nat.one_mul, Nat.add_zero, Nat.reduceMul] at e0 e1 e2 e3 e4 e5 e6 e7
  have D2 := Lib.hid (C2.out V2 I2.out B2.out)
  go_wp2_with (go_at_call 40; (with_reducible refine Calls.mono D2.out ?_); rintro ee V3 ⟨rfl, hq1, hq2, hq3⟩; have I3 := Lib.hid hq1; have B3 := Lib.hid hq2; have O3 := Lib.hid (O2.out.trans hq3); have BN3 := Lib.hid (BN2.out.oth hq3 hNb); clear hq1 hq2 hq3)
  first
    | go_end0
    | refine bodyPost_ret (v := .tuple #[]) (by simp [results, Tryz.results22, go_sem]) rfl ?_
  exact ⟨rfl, I3.out, B3.out, O3.out⟩
set_option maxRecDepth 100000 in
set_option maxHeartbeats 8000000 in
theorem write_if (x : Ex) (h17 : x.op = 17) (IH : ∀ y ∈ x.ks, WrT y) (w0 w : World) (b : Nat) (l : List UInt8) (A : Option Addr) (c : Nat) (hL : Lie (fun _ => True) w0 A x.ks) (hI : Bld w0 b l w) (hb : Bel w0 w) (ht : Tab w0) (hm : Mx w0) (ho : okX x = true) (hs : smX x) (hl : l.length + (txX x).length ≤ 90000000000000) :
    Calls Tryz.prog 22 #[.pointer (some ⟨b, 0, none⟩), exV x.op x.v (bytesOf x.nm) A x.ks.length c] w fun r w' => r = .returned (.tuple #[]) ∧ Bld w0 b (l ++ txX x) w' ∧ Bel w0 w' ∧ Oth b w w' := by
  obtain ⟨xo, v, nm, ks⟩ := x
  obtain rfl : xo = 17 := h17
  have hpr := prt_out (show prtB 17 v nm ks.length = true from by rw [okX, Bool.and_eq_true] at ho; exact ho.1)
  have hk3 : ks.length = 3 := by rw [hpr.2.2.1]; rfl
  obtain ⟨y1, y2, y3, rfl⟩ := len3 hk3
  rw [okX, okL, okL, okL, Bool.and_eq_true, Bool.and_eq_true, Bool.and_eq_true, Bool.and_eq_true] at ho
  have hT : txX (.mk 17 v nm [y1, y2, y3]) = wIF ++ ([32] ++ (brkT (decide (y1.ks.length = 0), txX y1) ++ ([32] ++ (wTHEN ++ ([32] ++ (brkT (decide (y2.ks.length = 0), txX y2) ++ ([32] ++ (wELSE ++ ([32] ++ brkT (decide (y3.ks.length = 0), txX y3)))))))))) := by rw [txX, txsX, txsX, txsX, txsX, shpT]
  obtain ⟨u1, hu1⟩ : ∃ u, brkT (decide (y1.ks.length = 0), txX y1) = u := ⟨_, rfl⟩
  obtain ⟨u2, hu2⟩ : ∃ u, brkT (decide (y2.ks.length = 0), txX y2) = u := ⟨_, rfl⟩
  obtain ⟨u3, hu3⟩ : ∃ u, brkT (decide (y3.ks.length = 0), txX y3) = u := ⟨_, rfl⟩
  rw [hu1, hu2, hu3] at hT
  rw [hT] at hl ⊢
  simp only [List.length_append, List.length_singleton, show wIF.length = 2 from rfl, show wTHEN.length = 4 from rfl, show wELSE.length = 4 from rfl] at hl
  obtain ⟨B, off, rfl, -, hBw, A1, c1, hE1, hL1⟩ := hL.get (q := 0) (x := y1) rfl
  obtain ⟨B', off', hA', -, -, A2, c2, hE2, hL2⟩ := hL.get (q := 1) (x := y2) rfl
  cases hA'
  obtain ⟨B', off', hA', -, -, A3, c3, hE3, hL3⟩ := hL.get (q := 2) (x := y3) rfl
  cases hA'
  show Calls Tryz.prog 22 #[.pointer (some ⟨b, 0, none⟩), .agg #[.int .i64 17, .int .i64 v.kind, .int .i64 v.n, .int .i64 v.scale, .string v.text, .int .i64 v.num, .string (bytesOf nm), .slice (some ⟨B, off, none⟩) 3 c]] w _
  have hbw := bld_lt hI
  have HI := Lib.hid hI
  have HB := Lib.hid hb
  have HE1 := Lib.hid hE1
  have S1 := Lib.hid fun X (hI : Bld w0 b l X) (hX : Bel w0 X) => wstr_any hI hX [105, 102, 32] ⟨#[105, 102, 32]⟩ rfl (by simp only [List.length_append, List.length_cons, List.length_nil]; omega)
  have C1 := Lib.hid fun X (hI : Bld w0 b (l ++ [105, 102, 32]) X) (hX : Bel w0 X) => writeKid_any y1 (IH y1 (by simp [Ex.ks])) w0 X b (l ++ [105, 102, 32]) A1 c1 hL1 hI hX ht hm (by first | exact ho.2.1 | exact ho.2.2.1 | exact ho.2.2.2.1) (by first | exact hs.2.2.1 | exact hs.2.2.2.1 | exact hs.2.2.2.2.1) (by rw [hu1]; simp only [List.length_append, List.length_cons, List.length_nil]; omega)
  rw [hu1] at C1
  have HE2 := Lib.hid hE2
  have S2 := Lib.hid fun X (hI : Bld w0 b (l ++ [105, 102, 32] ++ u1) X) (hX : Bel w0 X) => wstr_any hI hX [32, 116, 104, 101, 110, 32] ⟨#[32, 116, 104, 101, 110, 32]⟩ rfl (by simp only [List.length_append, List.length_cons, List.length_nil]; omega)
  have C2 := Lib.hid fun X (hI : Bld w0 b ((l ++ [105, 102, 32] ++ u1) ++ [32, 116, 104, 101, 110, 32]) X) (hX : Bel w0 X) => writeKid_any y2 (IH y2 (by simp [Ex.ks])) w0 X b ((l ++ [105, 102, 32] ++ u1) ++ [32, 116, 104, 101, 110, 32]) A2 c2 hL2 hI hX ht hm (by first | exact ho.2.1 | exact ho.2.2.1 | exact ho.2.2.2.1) (by first | exact hs.2.2.1 | exact hs.2.2.2.1 | exact hs.2.2.2.2.1) (by rw [hu2]; simp only [List.length_append, List.length_cons, List.length_nil]; omega)
  rw [hu2] at C2
  have HE3 := Lib.hid hE3
  have S3 := Lib.hid fun X (hI : Bld w0 b ((l ++ [105, 102, 32] ++ u1) ++ [32, 116, 104, 101, 110, 32] ++ u2) X) (hX : Bel w0 X) => wstr_any hI hX [32, 101, 108, 115, 101, 32] ⟨#[32, 101, 108, 115, 101, 32]⟩ rfl (by simp only [List.length_append, List.length_cons, List.length_nil]; omega)
  have C3 := Lib.hid fun X (hI : Bld w0 b (((l ++ [105, 102, 32] ++ u1) ++ [32, 116, 104, 101, 110, 32] ++ u2) ++ [32, 101, 108, 115, 101, 32]) X) (hX : Bel w0 X) => writeKid_any y3 (IH y3 (by simp [Ex.ks])) w0 X b (((l ++ [105, 102, 32] ++ u1) ++ [32, 116, 104, 101, 110, 32] ++ u2) ++ [32, 101, 108, 115, 101, 32]) A3 c3 hL3 hI hX ht hm (by first | exact ho.2.1 | exact ho.2.2.1 | exact ho.2.2.2.1) (by first | exact hs.2.2.1 | exact hs.2.2.2.1 | exact hs.2.2.2.2.1) (by rw [hu3]; simp only [List.length_append, List.length_cons, List.length_nil]; omega)
  rw [hu3] at C3
  have hfin : l ++ (wIF ++ ([32] ++ (u1 ++ ([32] ++ (wTHEN ++ ([32] ++ (u2 ++ ([32] ++ (wELSE ++ ([32] ++ u3)))))))))) = (((l ++ [105, 102, 32] ++ u1) ++ [32, 116, 104, 101, 110, 32] ++ u2) ++ [32, 101, 108, 115, 101, 32] ++ u3) := by simp [wIF, wTHEN, wELSE]
  rw [hfin]
  obtain ⟨LL, L0, L1, L2, L3⟩ : ∃ LL : Nat → List UInt8, LL 0 = l ∧ LL 1 = (l ++ [105, 102, 32] ++ u1) ∧ LL 2 = ((l ++ [105, 102, 32] ++ u1) ++ [32, 116, 104, 101, 110, 32] ++ u2) ∧ LL 3 = (((l ++ [105, 102, 32] ++ u1) ++ [32, 116, 104, 101, 110, 32] ++ u2) ++ [32, 101, 108, 115, 101, 32] ++ u3) := ⟨fun k => if k = 0 then l else if k = 1 then (l ++ [105, 102, 32] ++ u1) else if k = 2 then ((l ++ [105, 102, 32] ++ u1) ++ [32, 116, 104, 101, 110, 32] ++ u2) else (((l ++ [105, 102, 32] ++ u1) ++ [32, 116, 104, 101, 110, 32] ++ u2) ++ [32, 101, 108, 115, 101, 32] ++ u3), rfl, rfl, rfl, rfl⟩
  have hBN : BoxAt (w.alloc (.cells #[.int .i64 17, .int .i64 v.kind, .int .i64 v.n, .int .i64 v.scale, .string v.text, .int .i64 v.num, .string (bytesOf nm), .slice (some ⟨B, off, none⟩) 3 c] 28)) w.heap.size (.mk 17 v nm [y1, y2, y3]) (some ⟨B, off, none⟩) 3 c := box_new w (.mk 17 v nm [y1, y2, y3]) (some ⟨B, off, none⟩) 3 c
  have hbel := (Bel.refl w).alloc (.cells #[.int .i64 17, .int .i64 v.kind, .int .i64 v.n, .int .i64 v.scale, .string v.text, .int .i64 v.num, .string (bytesOf nm), .slice (some ⟨B, off, none⟩) 3 c] 28)
  clear hL ht hm ho hs hI hb hpr hE1 hE2 hE3 hL1 hL2 hL3 hl IH hu1 hu2 hu3 hT hk3 hfin
  have L0 := Lib.hid L0
  have L1 := Lib.hid L1
  have L2 := Lib.hid L2
  have L3 := Lib.hid L3
  have ix0 : ∀ w, Sem.run Tryz.prog (Instr.index 83 (.agg #[.string ⟨#[105, 102, 32]⟩, .string ⟨#[32, 116, 104, 101, 110, 32]⟩, .string ⟨#[32, 101, 108, 115, 101, 32]⟩]) (.int .i64 0)) w = .ok (.string ⟨#[105, 102, 32]⟩) w := fun w => by kernel_rfl
  have ix1 : ∀ w, Sem.run Tryz.prog (Instr.index 83 (.agg #[.string ⟨#[105, 102, 32]⟩, .string ⟨#[32, 116, 104, 101, 110, 32]⟩, .string ⟨#[32, 101, 108, 115, 101, 32]⟩]) (.int .i64 1)) w = .ok (.string ⟨#[32, 116, 104, 101, 110, 32]⟩) w := fun w => by kernel_rfl
  have ix2 : ∀ w, Sem.run Tryz.prog (Instr.index 83 (.agg #[.string ⟨#[105, 102, 32]⟩, .string ⟨#[32, 116, 104, 101, 110, 32]⟩, .string ⟨#[32, 101, 108, 115, 101, 32]⟩]) (.int .i64 2)) w = .ok (.string ⟨#[32, 101, 108, 115, 101, 32]⟩) w := fun w => by kernel_rfl
  go_enter Tryz.func22, Tryz.ntmps22
  go_upto_region 1 with fail
  generalize hWW : w.alloc (.cells #[.int .i64 17, .int .i64 v.kind, .int .i64 v.n, .int .i64 v.scale, .string v.text, .int .i64 v.num, .string (bytesOf nm), .slice (some ⟨B, off, none⟩) 3 c] 28) = W at hBN hbel ⊢
  generalize hN : w.heap.size = N at hBN ⊢
  have hNb : N ≠ b := by omega
  clear hN hWW
  have HO := Lib.hid (oth_bel (b := b) hbel)
  have HIW := Lib.hid (bld_keep HI.out hbel)
  have HBW := Lib.hid (HB.out.trans hbel)
  have HBN := Lib.hid hBN
  clear hBN hbel
  obtain ⟨k0, k1, k2, k3, k4, k5, k6, k7⟩ := HBN.out.cells
  simp only [Nat.zero_add, Ex.op, Ex.v, Ex.nm] at k0 k1 k2 k3 k4 k5 k6 k7
  have K0 := Lib.hid (show Bld w0 b (LL 0) W ∧ Bel w0 W ∧ Oth b w W ∧ BoxAt W N (.mk 17 v nm [y1, y2, y3]) (some ⟨B, off, none⟩) 3 c from ⟨by rw [L0.out]; exact HIW.out, HBW.out, HO.out, HBN.out⟩)
  go_upto_region 19 with fail
  clear k0 k1 k2 k3 k4 k5 k6 k7
  go_loopg [6, 7, 71] 3 (fun g _ _ sv wq => ∃ (q : Nat), sv = .int .i64 q ∧ q ≤ 3 ∧ Hid (g = 3 - q) ∧ Hid (Bld w0 b (LL q) wq ∧ Bel w0 wq ∧ Oth b w wq ∧ BoxAt wq N (.mk 17 v nm [y1, y2, y3]) (some ⟨B, off, none⟩) 3 c))
  case atStart => exact ⟨0, rfl, by omega, Lib.hid rfl, K0⟩
  case round =>
    obtain ⟨q, rfl, hq, hg, hW⟩ := hrel
    rcases (show q = 0 ∨ q = 1 ∨ q = 2 ∨ q = 3 from by omega) with rfl | rfl | rfl | rfl
    · have I0 := Lib.hid (show Bld w0 b l wr from by have h := hW.out.1; rw [L0.out] at h; exact h)
      have B0 := Lib.hid hW.out.2.1
      have O0 := Lib.hid hW.out.2.2.1
      have BN0 := Lib.hid hW.out.2.2.2
      clear hW
      have wk : IntKind.i64.wrap ((0 : Int) + 1) = 1 := by decide
      have D0 := Lib.hid (S1.out wr I0.out B0.out)
      go_upto_region 22 with (go_at_call 39; (with_reducible refine Calls.mono D0.out ?_); rintro ee V1 ⟨rfl, hq1, hq2, hq3⟩; have I1 := Lib.hid hq1; have B1 := Lib.hid hq2; have O1 := Lib.hid (O0.out.trans hq3); have BN1 := Lib.hid (BN0.out.oth hq3 hNb); clear hq1 hq2 hq3)
      obtain ⟨k0, k1, k2, k3, k4, k5, k6, k7⟩ := BN1.out.cells
      simp only [Nat.zero_add, Ex.op, Ex.v, Ex.nm] at k0 k1 k2 k3 k4 k5 k6 k7
      obtain ⟨e0, e1, e2, e3, e4, e5, e6, e7⟩ := HE1.out.same (w' := V1) fun o => (Bag.of (b := B + 1) B1.out).cell (p := ⟨B, o, none⟩) hBw (by show B ≠ B + 1; omega)
      simp only [Nat.zero_mul, Nat.one_mul, Nat.add_zero, Nat.reduceMul] at e0 e1 e2 e3 e4 e5 e6 e7
      have D1 := Lib.hid (C1.out V1 I1.out B1.out)
      go_upto_region 23 with (go_at_call 40; (with_reducible refine Calls.mono D1.out ?_); rintro ee V2 ⟨rfl, hq1, hq2, hq3⟩; have I2 := Lib.hid hq1; have B2 := Lib.hid hq2; have O2 := Lib.hid (O1.out.trans hq3); have BN2 := Lib.hid (BN1.out.oth hq3 hNb); clear hq1 hq2 hq3)
      clear k0 k1 k2 k3 k4 k5 k6 k7
      clear e0 e1 e2 e3 e4 e5 e6 e7
      go_wp2_with fail
      go_roundg (3 - 1)
      case measure => have := hg.out; omega
      case rel => exact ⟨1, rfl, by omega, Lib.hid rfl, Lib.hid ⟨by rw [L1.out]; exact I2.out, B2.out, O2.out, BN2.out⟩⟩
    · have I0 := Lib.hid (show Bld w0 b (l ++ [105, 102, 32] ++ u1) wr from by have h := hW.out.1; rw [L1.out] at h; exact h)
      have B0 := Lib.hid hW.out.2.1
      have O0 := Lib.hid hW.out.2.2.1
      have BN0 := Lib.hid hW.out.2.2.2
      clear hW
      have wk : IntKind.i64.wrap ((1 : Int) + 1) = 2 := by decide
      have D0 := Lib.hid (S2.out wr I0.out B0.out)
      go_upto_region 22 with (go_at_call 39; (with_reducible refine Calls.mono D0.out ?_); rintro ee V1 ⟨rfl, hq1, hq2, hq3⟩; have I1 := Lib.hid hq1; have B1 := Lib.hid hq2; have O1 := Lib.hid (O0.out.trans hq3); have BN1 := Lib.hid (BN0.out.oth hq3 hNb); clear hq1 hq2 hq3)
      obtain ⟨k0, k1, k2, k3, k4, k5, k6, k7⟩ := BN1.out.cells
      simp only [Nat.zero_add, Ex.op, Ex.v, Ex.nm] at k0 k1 k2 k3 k4 k5 k6 k7
      obtain ⟨e0, e1, e2, e3, e4, e5, e6, e7⟩ := HE2.out.same (w' := V1) fun o => (Bag.of (b := B + 1) B1.out).cell (p := ⟨B, o, none⟩) hBw (by show B ≠ B + 1; omega)
      simp only [Nat.zero_mul, Nat.one_mul, Nat.add_zero, Nat.reduceMul] at e0 e1 e2 e3 e4 e5 e6 e7
      have D1 := Lib.hid (C2.out V1 I1.out B1.out)
      go_upto_region 23 with (go_at_call 40; (with_reducible refine Calls.mono D1.out ?_); rintro ee V2 ⟨rfl, hq1, hq2, hq3⟩; have I2 := Lib.hid hq1; have B2 := Lib.hid hq2; have O2 := Lib.hid (O1.out.trans hq3); have BN2 := Lib.hid (BN1.out.oth hq3 hNb); clear hq1 hq2 hq3)
      clear k0 k1 k2 k3 k4 k5 k6 k7
      clear e0 e1 e2 e3 e4 e5 e6 e7
      go_wp2_with fail
      go_roundg (3 - 2)
      case measure => have := hg.out; omega
      case rel => exact ⟨2, rfl, by omega, Lib.hid rfl, Lib.hid ⟨by rw [L2.out]; exact I2.out, B2.out, O2.out, BN2.out⟩⟩
    · have I0 := Lib.hid (show Bld w0 b ((l ++ [105, 102, 32] ++ u1) ++ [32, 116, 104, 101, 110, 32] ++ u2) wr from by have h := hW.out.1; rw [L2.out] at h; exact h)
      have B0 := Lib.hid hW.out.2.1
      have O0 := Lib.hid hW.out.2.2.1
      have BN0 := Lib.hid hW.out.2.2.2
      clear hW
      have wk : IntKind.i64.wrap ((2 : Int) + 1) = 3 := by decide
      have D0 := Lib.hid (S3.out wr I0.out B0.out)
      go_upto_region 22 with (go_at_call 39; (with_reducible refine Calls.mono D0.out ?_); rintro ee V1 ⟨rfl, hq1, hq2, hq3⟩; have I1 := Lib.hid hq1; have B1 := Lib.hid hq2; have O1 := Lib.hid (O0.out.trans hq3); have BN1 := Lib.hid (BN0.out.oth hq3 hNb); clear hq1 hq2 hq3)
      obtain ⟨k0, k1, k2, k3, k4, k5, k6, k7⟩ := BN1.out.cells
      simp only [Nat.zero_add, Ex.op, Ex.v, Ex.nm] at k0 k1 k2 k3 k4 k5 k6 k7
      obtain ⟨e0, e1, e2, e3, e4, e5, e6, e7⟩ := HE3.out.same (w' := V1) fun o => (Bag.of (b := B + 1) B1.out).cell (p := ⟨B, o, none⟩) hBw (by show B ≠ B + 1; omega)
      simp only [Nat.zero_mul, Nat.one_mul, Nat.add_zero, Nat.reduceMul] at e0 e1 e2 e3 e4 e5 e6 e7
      have D1 := Lib.hid (C3.out V1 I1.out B1.out)
      go_upto_region 23 with (go_at_call 40; (with_reducible refine Calls.mono D1.out ?_); rintro ee V2 ⟨rfl, hq1, hq2, hq3⟩; have I2 := Lib.hid hq1; have B2 := Lib.hid hq2; have O2 := Lib.hid (O1.out.trans hq3); have BN2 := Lib.hid (BN1.out.oth hq3 hNb); clear hq1 hq2 hq3)
      clear k0 k1 k2 k3 k4 k5 k6 k7
      clear e0 e1 e2 e3 e4 e5 e6 e7
      go_wp2_with fail
      go_roundg (3 - 3)
      case measure => have := hg.out; omega
      case rel => exact ⟨3, rfl, by omega, Lib.hid rfl, Lib.hid ⟨by rw [L3.out]; exact I2.out, B2.out, O2.out, BN2.out⟩⟩
    · go_wp2_with fail
      first
        | go_end0
        | refine bodyPost_ret (v := .tuple #[]) (by simp [results, Tryz.results22, go_sem]) rfl ?_
      have h := hW.out
      rw [L3.out] at h
      exact ⟨rfl, h.1, h.2.1, h.2.2.1⟩
theorem write_any : ∀ x : Ex, WrT x := by
  refine Ex.ind fun op v nm ks IH => ?_
  intro w0 w b l A c hL hI hb ht hm ho hs hl
  have hp := prt_out (show prtB op v nm ks.length = true from by rw [okX, Bool.and_eq_true] at ho; exact ho.1)
  rcases kidN_cases hp.1 hp.2.1 with ⟨_, h | h⟩ | ⟨_, h | h⟩ | ⟨_, h⟩ | ⟨_, h, h'⟩
  · exact write_val (.mk op v nm ks) h w0 w b l A c hL hI hb ht hm ho hs hl
  · exact write_name (.mk op v nm ks) h w0 w b l A c hL hI hb ht hm ho hs hl
  · exact write_neg (.mk op v nm ks) h IH w0 w b l A c hL hI hb ht hm ho hs hl
  · exact write_not (.mk op v nm ks) h IH w0 w b l A c hL hI hb ht hm ho hs hl
  · exact write_if (.mk op v nm ks) h IH w0 w b l A c hL hI hb ht hm ho hs hl
  · exact write_two (.mk op v nm ks) h h' IH w0 w b l A c hL hI hb ht hm ho hs hl
end Go.Proofs.YthfkbonbgdioaaaGreatDoor
