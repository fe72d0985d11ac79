import Derived.Test.YthfkbonbgdioaaaGreatDoorEyd
namespace Go.Proofs.YthfkbonbgdioaaaGreatDoor
set_option linter.unusedSimpArgs false
set_option linter.unusedVariables false
open Go.RowKit
/-! Brackets around a whole expression. -/
theorem cat1 (l : List UInt8) : (⟨#[40]⟩ : ByteArray) ++ bytesOf l ++ (⟨#[41]⟩ : ByteArray) = bytesOf ([40] ++ (l ++ [41])) := by
  rw [show (⟨#[40]⟩ : ByteArray) = bytesOf [40] from rfl, show (⟨#[41]⟩ : ByteArray) = bytesOf [41] from rfl, bytes_app, bytes_app, List.append_assoc]
theorem cat2 (l m : List UInt8) : (⟨#[40]⟩ : ByteArray) ++ bytesOf l ++ (⟨#[41, 32, 111, 114, 32, 40]⟩ : ByteArray) ++ bytesOf m ++ (⟨#[41]⟩ : ByteArray) = bytesOf ([40] ++ (l ++ ([41] ++ ([32] ++ ([111, 114] ++ ([32] ++ ([40] ++ (m ++ [41])))))))) := by
  rw [show (⟨#[40]⟩ : ByteArray) = bytesOf [40] from rfl, show (⟨#[41]⟩ : ByteArray) = bytesOf [41] from rfl, show (⟨#[41, 32, 111, 114, 32, 40]⟩ : ByteArray) = bytesOf [41, 32, 111, 114, 32, 40] from rfl, bytes_app, bytes_app, bytes_app, bytes_app]
  simp only [List.append_assoc, List.cons_append, List.nil_append]
theorem lie_two (w : World) (o p : Int) (v u : Val) (nm mm : List UInt8) (ks ls : List Ex) (A B : Option Addr) (c d : Nat) (t : TypeId) (hA : Lie (fun _ => True) w A ks) (hB : Lie (fun _ => True) w B ls) :
    Lie (fun _ => True) (w.alloc (.cells #[.int .i64 o, .int .i64 v.kind, .int .i64 v.n, .int .i64 v.scale, .string v.text, .int .i64 v.num, .string (bytesOf nm), .slice A ks.length c, .int .i64 p, .int .i64 u.kind, .int .i64 u.n, .int .i64 u.scale, .string u.text, .int .i64 u.num, .string (bytesOf mm), .slice B ls.length d] t)) (some ⟨w.heap.size, 0, none⟩) [.mk o v nm ks, .mk p u mm ls] := by
  have hb := (Bel.refl w).alloc (.cells #[.int .i64 o, .int .i64 v.kind, .int .i64 v.n, .int .i64 v.scale, .string v.text, .int .i64 v.num, .string (bytesOf nm), .slice A ks.length c, .int .i64 p, .int .i64 u.kind, .int .i64 u.n, .int .i64 u.scale, .string u.text, .int .i64 u.num, .string (bytesOf mm), .slice B ls.length d] t)
  obtain ⟨n1, h1⟩ := hA.keep hb
  obtain ⟨n2, h2⟩ := hB.keep hb
  refine ⟨n1 + n2 + 1, fun _ => ⟨w.heap.size, 0, rfl, trivial, by simp, fun i x hx => ?_⟩⟩
  match i, hx with
  | 0, hx =>
    obtain rfl : Ex.mk o v nm ks = x := by simpa using hx
    exact ⟨A, c, by simp [ExAt, go_sem, Ex.op, Ex.v, Ex.nm, Ex.ks], h1.le (by omega)⟩
  | 1, hx =>
    obtain rfl : Ex.mk p u mm ls = x := by simpa using hx
    exact ⟨B, d, by simp [ExAt, go_sem, Ex.op, Ex.v, Ex.nm, Ex.ks], h2.le (by omega)⟩
  | i + 2, hx => simp at hx
set_option maxRecDepth 100000 in
set_option maxHeartbeats 8000000 in
theorem law_Brackets (s t : ByteArray) (hs : s.size ≤ 9223372036854775807) (ht : t.size ≤ 9223372036854775807) (w : World) (hT : Tab w) (hm : Mx w) :
    Calls Tryz.prog 7 #[.string s, .string t] w fun e w' => e = .returned (.bool true) ∧ Bel w w' := by
  have CA := Lib.hid fun W (hW : Bel w W) => awake_T W (hT.keep hW) (hm.keep hW)
  have si : (s.size : Int) ≤ 9223372036854775807 := by omega
  have ti : (t.size : Int) ≤ 9223372036854775807 := by omega
  by_cases hsz : s.size ≤ 1000
  · have hsi : ¬ (1000 : Int) < (s.size : Int) := by omega
    by_cases htz : t.size ≤ 1000
    · have hti : ¬ (1000 : Int) < (t.size : Int) := by omega
      by_cases he : (parE s).2.2 = 0 ∧ (parE t).2.2 = 0
      · obtain ⟨x, n0, hpx⟩ : ∃ x n, parE s = (x, n, 0) := ⟨(parE s).1, (parE s).2.1, by rw [← he.1]⟩
        obtain ⟨y, m0, hpy⟩ : ∃ x n, parE t = (x, n, 0) := ⟨(parE t).1, (parE t).2.1, by rw [← he.2]⟩
        have hB1 := brk_one hpx hsz
        have hB2 := brk_two hpx hpy hsz htz
        have c1 := cat1 s.data.toList
        have c2 := cat2 s.data.toList t.data.toList
        rw [bytesOf_data] at c1
        rw [bytesOf_data, bytesOf_data] at c2
        rw [← c1] at hB1
        rw [← c2] at hB2
        clear c1 c2
        have okx := snd_ok (parE_ok hpx).2.1
        have oky := snd_ok (parE_ok hpy).2.1
        have lit1 : (⟨#[40]⟩ : ByteArray).size = 1 := rfl
        have lit2 : (⟨#[41]⟩ : ByteArray).size = 1 := rfl
        have lit3 : (⟨#[41, 32, 111, 114, 32, 40]⟩ : ByteArray).size = 6 := rfl
        have z1 : (((⟨#[40]⟩ : ByteArray) ++ s).size : Int) ≤ 1001 := by rw [ByteArray.size_append]; omega
        have z2 : (((⟨#[40]⟩ : ByteArray) ++ s ++ (⟨#[41]⟩ : ByteArray)).size : Int) ≤ 1002 := by rw [ByteArray.size_append, ByteArray.size_append]; omega
        have z3 : (((⟨#[40]⟩ : ByteArray) ++ s ++ (⟨#[41, 32, 111, 114, 32, 40]⟩ : ByteArray)).size : Int) ≤ 1007 := by rw [ByteArray.size_append, ByteArray.size_append]; omega
        have z4 : (((⟨#[40]⟩ : ByteArray) ++ s ++ (⟨#[41, 32, 111, 114, 32, 40]⟩ : ByteArray) ++ t).size : Int) ≤ 2007 := by rw [ByteArray.size_append, ByteArray.size_append, ByteArray.size_append]; omega
        have z5 : (((⟨#[40]⟩ : ByteArray) ++ s ++ (⟨#[41, 32, 111, 114, 32, 40]⟩ : ByteArray) ++ t ++ (⟨#[41]⟩ : ByteArray)).size : Int) ≤ 2008 := by rw [ByteArray.size_append, ByteArray.size_append, ByteArray.size_append, ByteArray.size_append]; omega
        have CP := Lib.hid fun W (hW : Bel w W) => eparse_is hpx hs W (hm.keep hW)
        have CQ := Lib.hid fun W (hW : Bel w W) => eparse_is hpy ht W (hm.keep hW)
        clear lit1 lit2 lit3 he hpx hpy
        rcases hB1 with hB1 | hB1
        · rcases hB2 with hB2 | hB2
          · have CZ := Lib.hid fun W (hW : Bel w W) => eparse_is hB1 (by omega) W (hm.keep hW)
            have CW := Lib.hid fun W (hW : Bel w W) => eparse_is hB2 (by omega) W (hm.keep hW)
            have CM1 := Lib.hid fun A B ca cb W (h1 : Lie (fun _ => True) W A x.ks) (h2 : Lie (fun _ => True) W B x.ks) => xsame_any x W A B ca cb okx h1 h2
            have hox : okX (.mk 15 zv [] [x, y]) = true := by
              rw [okX, okL, okL, okL, okx, oky]
              rfl
            have CM2 := Lib.hid fun A B ca cb W (h1 : Lie (fun _ => True) W A [x, y]) (h2 : Lie (fun _ => True) W B [x, y]) => xsame_any (.mk 15 zv [] [x, y]) W A B ca cb hox h1 h2
            obtain ⟨o1, ⟨vk1, vn1, vs1, vt1, vm1⟩, nm1, ks1⟩ := x
            obtain ⟨o2, ⟨vk2, vn2, vs2, vt2, vm2⟩, nm2, ks2⟩ := y
            have LT2 := Lib.hid fun (W : World) (A B : Option Addr) (c d : Nat) (ty : TypeId) (hA : Lie (fun _ => True) W A ks1) (hB : Lie (fun _ => True) W B ks2) => lie_two W o1 o2 ⟨vk1, vn1, vs1, vt1, vm1⟩ ⟨vk2, vn2, vs2, vt2, vm2⟩ nm1 nm2 ks1 ks2 A B c d ty hA hB
            generalize hxy : [Ex.mk o1 ⟨vk1, vn1, vs1, vt1, vm1⟩ nm1 ks1, Ex.mk o2 ⟨vk2, vn2, vs2, vt2, vm2⟩ nm2 ks2] = xy at CW CM2 LT2
            have hxl : xy.length = 2 := by rw [← hxy]; rfl
            simp only [Ex.op, Ex.v, Ex.nm, Ex.ks, zv, hxl] at CP CQ CZ CW CM1 CM2 LT2
            generalize bytesOf nm1 = bn1 at CP CZ CM1 LT2
            generalize bytesOf nm2 = bn2 at CQ LT2
            generalize hnk1 : ks1.length = n1 at CP CZ CM1 LT2
            generalize hnk2 : ks2.length = n2 at CQ LT2
            rw [show bytesOf [] = (⟨#[]⟩ : ByteArray) from rfl] at CW CM2
            clear hnk1 hnk2 hxy hxl hox okx oky hs ht hT hm hB1 hB2
            go_enter Tryz.func7, Tryz.ntmps7
            go_upto_region 4 with (go_at_call 15; (with_reducible refine Calls.mono (CP.out _ (Bel.refl w)) ?_); rintro e V1 ⟨A1, c1, rfl, h1, hb1⟩; have hq1 := Lib.hid ((Bel.refl w).trans hb1); have h1 := Lib.hid h1; clear hb1)
            refine under_name (w0 := V1) (by (repeat (first | with_reducible exact Bel.refl _ | with_reducible refine Bel.setCell ?_ (by first | exact Nat.le_refl _ | (dsimp only; omega)) _ | with_reducible refine Bel.alloc ?_ _ | with_reducible refine Bel.drew ?_ | with_reducible assumption | with_reducible refine Bel.trans ?_ (by assumption)))) fun W1 hcc hf hz hb2 => ?_
            have k1 : XFree W1 V1.heap.size o1 ⟨vk1, vn1, vs1, vt1, vm1⟩ bn1 A1 n1 c1 := by simp [XFree, ExAt, hcc, hf, hz, go_sem]
            clear hcc hf hz
            generalize V1.heap.size = N1 at k1
            replace k1 := Lib.hid k1
            replace h1 := Lib.hid (h1.out.keep hb2)
            have q1 := Lib.hid (hq1.out.trans hb2)
            clear hb2 hq1
            go_upto_region 5 with (go_at_call 15; (with_reducible refine Calls.mono (CQ.out _ q1.out) ?_); rintro e V2 ⟨A2, c2, rfl, h2, hb1⟩; have hq1 := Lib.hid (q1.out.trans hb1); have h2 := Lib.hid h2; replace k1 := Lib.hid (k1.out.keep hb1); replace h1 := Lib.hid (h1.out.keep hb1); clear hb1)
            refine under_name (w0 := V2) (by (repeat (first | with_reducible exact Bel.refl _ | with_reducible refine Bel.setCell ?_ (by first | exact Nat.le_refl _ | (dsimp only; omega)) _ | with_reducible refine Bel.alloc ?_ _ | with_reducible refine Bel.drew ?_ | with_reducible assumption | with_reducible refine Bel.trans ?_ (by assumption)))) fun W2 hcc hf hz hb2 => ?_
            have k2 : XFree W2 V2.heap.size o2 ⟨vk2, vn2, vs2, vt2, vm2⟩ bn2 A2 n2 c2 := by simp [XFree, ExAt, hcc, hf, hz, go_sem]
            clear hcc hf hz
            generalize V2.heap.size = N2 at k2
            replace k2 := Lib.hid k2
            replace h2 := Lib.hid (h2.out.keep hb2)
            have q2 := Lib.hid (hq1.out.trans hb2)
            replace k1 := Lib.hid (k1.out.keep hb2)
            replace h1 := Lib.hid (h1.out.keep hb2)
            clear hb2 hq1
            go_upto_region 7 with (go_at_call 9; (with_reducible refine Calls.mono (CA.out _ q2.out) ?_); rintro e V3 ⟨rfl, hb3⟩; have hhb3 := Lib.hid hb3; clear hb3)
            replace q2 := Lib.hid (q2.out.trans hhb3.out)
            replace k1 := Lib.hid (k1.out.keep hhb3.out)
            replace k2 := Lib.hid (k2.out.keep hhb3.out)
            replace h1 := Lib.hid (h1.out.keep hhb3.out)
            replace h2 := Lib.hid (h2.out.keep hhb3.out)
            go_upto_region 8 with (go_at_call 15; (with_reducible refine Calls.mono (CZ.out _ q2.out) ?_); rintro e V4 ⟨A3, c3, rfl, h3, hb1⟩; have hq1 := Lib.hid (q2.out.trans hb1); have h3 := Lib.hid h3; replace k1 := Lib.hid (k1.out.keep hb1); replace k2 := Lib.hid (k2.out.keep hb1); replace h1 := Lib.hid (h1.out.keep hb1); replace h2 := Lib.hid (h2.out.keep hb1); clear hb1)
            refine under_name (w0 := V4) (by (repeat (first | with_reducible exact Bel.refl _ | with_reducible refine Bel.setCell ?_ (by first | exact Nat.le_refl _ | (dsimp only; omega)) _ | with_reducible refine Bel.alloc ?_ _ | with_reducible refine Bel.drew ?_ | with_reducible assumption | with_reducible refine Bel.trans ?_ (by assumption)))) fun W4 hcc hf hz hb2 => ?_
            have k3 : XFree W4 V4.heap.size o1 ⟨vk1, vn1, vs1, vt1, vm1⟩ bn1 A3 n1 c3 := by simp [XFree, ExAt, hcc, hf, hz, go_sem]
            clear hcc hf hz
            generalize V4.heap.size = N3 at k3
            replace k3 := Lib.hid k3
            replace h3 := Lib.hid (h3.out.keep hb2)
            have q3 := Lib.hid (hq1.out.trans hb2)
            replace k1 := Lib.hid (k1.out.keep hb2)
            replace k2 := Lib.hid (k2.out.keep hb2)
            replace h1 := Lib.hid (h1.out.keep hb2)
            replace h2 := Lib.hid (h2.out.keep hb2)
            clear hb2 hq1
            go_upto_region 9 with (go_at_call 15; (with_reducible refine Calls.mono (CW.out _ q3.out) ?_); rintro e V5 ⟨A4, c4, rfl, h4, hb1⟩; have hq1 := Lib.hid (q3.out.trans hb1); have h4 := Lib.hid h4; replace k1 := Lib.hid (k1.out.keep hb1); replace k2 := Lib.hid (k2.out.keep hb1); replace k3 := Lib.hid (k3.out.keep hb1); replace h1 := Lib.hid (h1.out.keep hb1); replace h2 := Lib.hid (h2.out.keep hb1); replace h3 := Lib.hid (h3.out.keep hb1); clear hb1)
            refine under_name (w0 := V5) (by (repeat (first | with_reducible exact Bel.refl _ | with_reducible refine Bel.setCell ?_ (by first | exact Nat.le_refl _ | (dsimp only; omega)) _ | with_reducible refine Bel.alloc ?_ _ | with_reducible refine Bel.drew ?_ | with_reducible assumption | with_reducible refine Bel.trans ?_ (by assumption)))) fun W5 hcc hf hz hb2 => ?_
            have k4 : XFree W5 V5.heap.size 15 ⟨0, 0, 0, ⟨#[]⟩, 0⟩ ⟨#[]⟩ A4 2 c4 := by simp [XFree, ExAt, hcc, hf, hz, go_sem]
            clear hcc hf hz
            generalize V5.heap.size = N4 at k4
            replace k4 := Lib.hid k4
            replace h4 := Lib.hid (h4.out.keep hb2)
            have q4 := Lib.hid (hq1.out.trans hb2)
            replace k1 := Lib.hid (k1.out.keep hb2)
            replace k2 := Lib.hid (k2.out.keep hb2)
            replace k3 := Lib.hid (k3.out.keep hb2)
            replace h1 := Lib.hid (h1.out.keep hb2)
            replace h2 := Lib.hid (h2.out.keep hb2)
            replace h3 := Lib.hid (h3.out.keep hb2)
            clear hb2 hq1
            obtain ⟨az, ⟨a0, a1, a2, a3, a4, a5, a6, a7⟩, ⟨af0, af1, af2, af3, af4, af5, af6, af7⟩⟩ := k1.out
            obtain ⟨bz, ⟨b0, b1, b2, b3, b4, b5, b6, b7⟩, ⟨bf0, bf1, bf2, bf3, bf4, bf5, bf6, bf7⟩⟩ := k2.out
            obtain ⟨dz, ⟨d0, d1, d2, d3, d4, d5, d6, d7⟩, ⟨df0, df1, df2, df3, df4, df5, df6, df7⟩⟩ := k3.out
            obtain ⟨ez, ⟨e0, e1, e2, e3, e4, e5, e6, e7⟩, ⟨ef0, ef1, ef2, ef3, ef4, ef5, ef6, ef7⟩⟩ := k4.out
            simp only [Nat.zero_add] at a0 a1 a2 a3 a4 a5 a6 a7 b0 b1 b2 b3 b4 b5 b6 b7 d0 d1 d2 d3 d4 d5 d6 d7 e0 e1 e2 e3 e4 e5 e6 e7
            clear af0 af1 af2 af3 af4 af5 af6 af7 bf0 bf1 bf2 bf3 bf4 bf5 bf6 bf7 df0 df1 df2 df3 df4 df5 df6 df7 ef0 ef1 ef2 ef3 ef4 ef5 ef6 ef7
            go_wp2_with (first
              | (go_at_call 13; (with_reducible refine Calls.mono (CM1.out _ _ _ _ _ h3.out h1.out) ?_); rintro e V8 ⟨rfl, hb8⟩; have hq8 := Lib.hid (q4.out.trans hb8); replace h1 := Lib.hid (h1.out.keep hb8); replace h2 := Lib.hid (h2.out.keep hb8); replace h4 := Lib.hid (h4.out.keep hb8); clear a0 a1 a2 a3 a4 a5 a6 a7 b0 b1 b2 b3 b4 b5 b6 b7 d0 d1 d2 d3 d4 d5 d6 d7 e0 e1 e2 e3 e4 e5 e6 e7 az bz dz ez; obtain ⟨az, ⟨a0, a1, a2, a3, a4, a5, a6, a7⟩, ⟨af0, af1, af2, af3, af4, af5, af6, af7⟩⟩ := k1.out.keep hb8; obtain ⟨bz, ⟨b0, b1, b2, b3, b4, b5, b6, b7⟩, ⟨bf0, bf1, bf2, bf3, bf4, bf5, bf6, bf7⟩⟩ := k2.out.keep hb8; obtain ⟨ez, ⟨e0, e1, e2, e3, e4, e5, e6, e7⟩, ⟨ef0, ef1, ef2, ef3, ef4, ef5, ef6, ef7⟩⟩ := k4.out.keep hb8; simp only [Nat.zero_add] at a0 a1 a2 a3 a4 a5 a6 a7 b0 b1 b2 b3 b4 b5 b6 b7 e0 e1 e2 e3 e4 e5 e6 e7; clear af0 af1 af2 af3 af4 af5 af6 af7 bf0 bf1 bf2 bf3 bf4 bf5 bf6 bf7 ef0 ef1 ef2 ef3 ef4 ef5 ef6 ef7 hb8)
              | (go_at_call 13; (refine Calls.mono (CM2.out _ _ _ _ _ (h4.out.keep ((Bel.refl V8).alloc _)) (LT2.out V8 _ _ _ _ _ h1.out h2.out)) ?_); rintro e V9 ⟨rfl, hb9⟩; have hq9 := Lib.hid ((hq8.out.trans ((Bel.refl V8).alloc _)).trans hb9); clear hb9))
            go_ret
            exact ⟨rfl, hq9.out⟩
          · have CZ := Lib.hid fun W (hW : Bel w W) => eparse_is (s := ((⟨#[40]⟩ : ByteArray) ++ s ++ (⟨#[41]⟩ : ByteArray))) (x := (parE ((⟨#[40]⟩ : ByteArray) ++ s ++ (⟨#[41]⟩ : ByteArray))).1) (n := (parE ((⟨#[40]⟩ : ByteArray) ++ s ++ (⟨#[41]⟩ : ByteArray))).2.1) (e := 0) (by rw [hB1]) (by omega) W (hm.keep hW)
            have CW := Lib.hid fun W (hW : Bel w W) => eparse_is (s := ((⟨#[40]⟩ : ByteArray) ++ s ++ (⟨#[41, 32, 111, 114, 32, 40]⟩ : ByteArray) ++ t ++ (⟨#[41]⟩ : ByteArray))) (x := (parE ((⟨#[40]⟩ : ByteArray) ++ s ++ (⟨#[41, 32, 111, 114, 32, 40]⟩ : ByteArray) ++ t ++ (⟨#[41]⟩ : ByteArray))).1) (n := (parE ((⟨#[40]⟩ : ByteArray) ++ s ++ (⟨#[41, 32, 111, 114, 32, 40]⟩ : ByteArray) ++ t ++ (⟨#[41]⟩ : ByteArray))).2.1) (e := 9) (by rw [← hB2]) (by omega) W (hm.keep hW)
            generalize parE ((⟨#[40]⟩ : ByteArray) ++ s ++ (⟨#[41]⟩ : ByteArray)) = R at CZ
            generalize parE ((⟨#[40]⟩ : ByteArray) ++ s ++ (⟨#[41, 32, 111, 114, 32, 40]⟩ : ByteArray) ++ t ++ (⟨#[41]⟩ : ByteArray)) = S at CW
            obtain ⟨⟨o3, ⟨vk3, vn3, vs3, vt3, vm3⟩, nm3, ks3⟩, pl3, er3⟩ := R
            obtain ⟨⟨o4, ⟨vk4, vn4, vs4, vt4, vm4⟩, nm4, ks4⟩, pl4, er4⟩ := S
            obtain ⟨o1, ⟨vk1, vn1, vs1, vt1, vm1⟩, nm1, ks1⟩ := x
            obtain ⟨o2, ⟨vk2, vn2, vs2, vt2, vm2⟩, nm2, ks2⟩ := y
            simp only [Ex.op, Ex.v, Ex.nm, Ex.ks] at CP
            generalize bytesOf nm1 = bn1 at CP
            generalize hnk1 : ks1.length = n1 at CP
            clear hnk1
            simp only [Ex.op, Ex.v, Ex.nm, Ex.ks] at CQ
            generalize bytesOf nm2 = bn2 at CQ
            generalize hnk2 : ks2.length = n2 at CQ
            clear hnk2
            simp only [Ex.op, Ex.v, Ex.nm, Ex.ks] at CZ
            generalize bytesOf nm3 = bn3 at CZ
            generalize hnk3 : ks3.length = n3 at CZ
            clear hnk3
            simp only [Ex.op, Ex.v, Ex.nm, Ex.ks] at CW
            generalize bytesOf nm4 = bn4 at CW
            generalize hnk4 : ks4.length = n4 at CW
            clear hnk4
            try simp only at CZ CW
            clear hs ht hT hm hB1 hB2 okx oky
            go_enter Tryz.func7, Tryz.ntmps7
            go_upto_region 4 with (go_at_call 15; (with_reducible refine Calls.mono (CP.out _ (Bel.refl w)) ?_); rintro e V1 ⟨A1, c1, rfl, h1, hb1⟩; have hq1 := Lib.hid ((Bel.refl w).trans hb1); have h1 := Lib.hid h1; clear hb1)
            refine under_name (w0 := V1) (by (repeat (first | with_reducible exact Bel.refl _ | with_reducible refine Bel.setCell ?_ (by first | exact Nat.le_refl _ | (dsimp only; omega)) _ | with_reducible refine Bel.alloc ?_ _ | with_reducible refine Bel.drew ?_ | with_reducible assumption | with_reducible refine Bel.trans ?_ (by assumption)))) fun W1 hcc hf hz hb2 => ?_
            have k1 : XFree W1 V1.heap.size o1 ⟨vk1, vn1, vs1, vt1, vm1⟩ bn1 A1 n1 c1 := by simp [XFree, ExAt, hcc, hf, hz, go_sem]
            clear hcc hf hz
            generalize V1.heap.size = N1 at k1
            replace k1 := Lib.hid k1
            replace h1 := Lib.hid (h1.out.keep hb2)
            have q1 := Lib.hid (hq1.out.trans hb2)
            clear hb2 hq1
            go_upto_region 5 with (go_at_call 15; (with_reducible refine Calls.mono (CQ.out _ q1.out) ?_); rintro e V2 ⟨A2, c2, rfl, h2, hb1⟩; have hq1 := Lib.hid (q1.out.trans hb1); have h2 := Lib.hid h2; replace k1 := Lib.hid (k1.out.keep hb1); replace h1 := Lib.hid (h1.out.keep hb1); clear hb1)
            refine under_name (w0 := V2) (by (repeat (first | with_reducible exact Bel.refl _ | with_reducible refine Bel.setCell ?_ (by first | exact Nat.le_refl _ | (dsimp only; omega)) _ | with_reducible refine Bel.alloc ?_ _ | with_reducible refine Bel.drew ?_ | with_reducible assumption | with_reducible refine Bel.trans ?_ (by assumption)))) fun W2 hcc hf hz hb2 => ?_
            have k2 : XFree W2 V2.heap.size o2 ⟨vk2, vn2, vs2, vt2, vm2⟩ bn2 A2 n2 c2 := by simp [XFree, ExAt, hcc, hf, hz, go_sem]
            clear hcc hf hz
            generalize V2.heap.size = N2 at k2
            replace k2 := Lib.hid k2
            replace h2 := Lib.hid (h2.out.keep hb2)
            have q2 := Lib.hid (hq1.out.trans hb2)
            replace k1 := Lib.hid (k1.out.keep hb2)
            replace h1 := Lib.hid (h1.out.keep hb2)
            clear hb2 hq1
            go_upto_region 7 with (go_at_call 9; (with_reducible refine Calls.mono (CA.out _ q2.out) ?_); rintro e V3 ⟨rfl, hb3⟩; have hhb3 := Lib.hid hb3; clear hb3)
            replace q2 := Lib.hid (q2.out.trans hhb3.out)
            clear k1 h1 k2 h2
            go_upto_region 8 with (go_at_call 15; (with_reducible refine Calls.mono (CZ.out _ q2.out) ?_); rintro e V4 ⟨A3, c3, rfl, h3, hb1⟩; have hq1 := Lib.hid (q2.out.trans hb1); have h3 := Lib.hid h3; clear hb1)
            refine under_name (w0 := V4) (by (repeat (first | with_reducible exact Bel.refl _ | with_reducible refine Bel.setCell ?_ (by first | exact Nat.le_refl _ | (dsimp only; omega)) _ | with_reducible refine Bel.alloc ?_ _ | with_reducible refine Bel.drew ?_ | with_reducible assumption | with_reducible refine Bel.trans ?_ (by assumption)))) fun W4 hcc hf hz hb2 => ?_
            have k3 : XFree W4 V4.heap.size o3 ⟨vk3, vn3, vs3, vt3, vm3⟩ bn3 A3 n3 c3 := by simp [XFree, ExAt, hcc, hf, hz, go_sem]
            clear hcc hf hz
            generalize V4.heap.size = N3 at k3
            replace k3 := Lib.hid k3
            replace h3 := Lib.hid (h3.out.keep hb2)
            have q3 := Lib.hid (hq1.out.trans hb2)
            clear hb2 hq1
            go_upto_region 9 with (go_at_call 15; (with_reducible refine Calls.mono (CW.out _ q3.out) ?_); rintro e V5 ⟨A4, c4, rfl, h4, hb1⟩; have hq1 := Lib.hid (q3.out.trans hb1); have h4 := Lib.hid h4; clear hb1)
            refine under_name (w0 := V5) (by (repeat (first | with_reducible exact Bel.refl _ | with_reducible refine Bel.setCell ?_ (by first | exact Nat.le_refl _ | (dsimp only; omega)) _ | with_reducible refine Bel.alloc ?_ _ | with_reducible refine Bel.drew ?_ | with_reducible assumption | with_reducible refine Bel.trans ?_ (by assumption)))) fun W5 hcc hf hz hb2 => ?_
            have k4 : XFree W5 V5.heap.size o4 ⟨vk4, vn4, vs4, vt4, vm4⟩ bn4 A4 n4 c4 := by simp [XFree, ExAt, hcc, hf, hz, go_sem]
            clear hcc hf hz
            generalize V5.heap.size = N4 at k4
            replace k4 := Lib.hid k4
            replace h4 := Lib.hid (h4.out.keep hb2)
            have q4 := Lib.hid (hq1.out.trans hb2)
            clear hb2 hq1
            go_wp2_with fail
            go_ret
            exact ⟨rfl, q4.out⟩
        · have CZ := Lib.hid fun W (hW : Bel w W) => eparse_is (s := ((⟨#[40]⟩ : ByteArray) ++ s ++ (⟨#[41]⟩ : ByteArray))) (x := (parE ((⟨#[40]⟩ : ByteArray) ++ s ++ (⟨#[41]⟩ : ByteArray))).1) (n := (parE ((⟨#[40]⟩ : ByteArray) ++ s ++ (⟨#[41]⟩ : ByteArray))).2.1) (e := 9) (by rw [← hB1]) (by omega) W (hm.keep hW)
          have CW := Lib.hid fun W (hW : Bel w W) => eparse_is (s := ((⟨#[40]⟩ : ByteArray) ++ s ++ (⟨#[41, 32, 111, 114, 32, 40]⟩ : ByteArray) ++ t ++ (⟨#[41]⟩ : ByteArray))) (x := (parE ((⟨#[40]⟩ : ByteArray) ++ s ++ (⟨#[41, 32, 111, 114, 32, 40]⟩ : ByteArray) ++ t ++ (⟨#[41]⟩ : ByteArray))).1) (n := (parE ((⟨#[40]⟩ : ByteArray) ++ s ++ (⟨#[41, 32, 111, 114, 32, 40]⟩ : ByteArray) ++ t ++ (⟨#[41]⟩ : ByteArray))).2.1) (e := (parE ((⟨#[40]⟩ : ByteArray) ++ s ++ (⟨#[41, 32, 111, 114, 32, 40]⟩ : ByteArray) ++ t ++ (⟨#[41]⟩ : ByteArray))).2.2) rfl (by omega) W (hm.keep hW)
          generalize parE ((⟨#[40]⟩ : ByteArray) ++ s ++ (⟨#[41]⟩ : ByteArray)) = R at CZ
          generalize parE ((⟨#[40]⟩ : ByteArray) ++ s ++ (⟨#[41, 32, 111, 114, 32, 40]⟩ : ByteArray) ++ t ++ (⟨#[41]⟩ : ByteArray)) = S at CW
          obtain ⟨⟨o3, ⟨vk3, vn3, vs3, vt3, vm3⟩, nm3, ks3⟩, pl3, er3⟩ := R
          obtain ⟨⟨o4, ⟨vk4, vn4, vs4, vt4, vm4⟩, nm4, ks4⟩, pl4, er4⟩ := S
          obtain ⟨o1, ⟨vk1, vn1, vs1, vt1, vm1⟩, nm1, ks1⟩ := x
          obtain ⟨o2, ⟨vk2, vn2, vs2, vt2, vm2⟩, nm2, ks2⟩ := y
          simp only [Ex.op, Ex.v, Ex.nm, Ex.ks] at CP
          generalize bytesOf nm1 = bn1 at CP
          generalize hnk1 : ks1.length = n1 at CP
          clear hnk1
          simp only [Ex.op, Ex.v, Ex.nm, Ex.ks] at CQ
          generalize bytesOf nm2 = bn2 at CQ
          generalize hnk2 : ks2.length = n2 at CQ
          clear hnk2
          simp only [Ex.op, Ex.v, Ex.nm, Ex.ks] at CZ
          generalize bytesOf nm3 = bn3 at CZ
          generalize hnk3 : ks3.length = n3 at CZ
          clear hnk3
          simp only [Ex.op, Ex.v, Ex.nm, Ex.ks] at CW
          generalize bytesOf nm4 = bn4 at CW
          generalize hnk4 : ks4.length = n4 at CW
          clear hnk4
          try simp only at CZ CW
          clear hs ht hT hm hB1 hB2 okx oky
          go_enter Tryz.func7, Tryz.ntmps7
          go_upto_region 4 with (go_at_call 15; (with_reducible refine Calls.mono (CP.out _ (Bel.refl w)) ?_); rintro e V1 ⟨A1, c1, rfl, h1, hb1⟩; have hq1 := Lib.hid ((Bel.refl w).trans hb1); have h1 := Lib.hid h1; clear hb1)
          refine under_name (w0 := V1) (by (repeat (first | with_reducible exact Bel.refl _ | with_reducible refine Bel.setCell ?_ (by first | exact Nat.le_refl _ | (dsimp only; omega)) _ | with_reducible refine Bel.alloc ?_ _ | with_reducible refine Bel.drew ?_ | with_reducible assumption | with_reducible refine Bel.trans ?_ (by assumption)))) fun W1 hcc hf hz hb2 => ?_
          have k1 : XFree W1 V1.heap.size o1 ⟨vk1, vn1, vs1, vt1, vm1⟩ bn1 A1 n1 c1 := by simp [XFree, ExAt, hcc, hf, hz, go_sem]
          clear hcc hf hz
          generalize V1.heap.size = N1 at k1
          replace k1 := Lib.hid k1
          replace h1 := Lib.hid (h1.out.keep hb2)
          have q1 := Lib.hid (hq1.out.trans hb2)
          clear hb2 hq1
          go_upto_region 5 with (go_at_call 15; (with_reducible refine Calls.mono (CQ.out _ q1.out) ?_); rintro e V2 ⟨A2, c2, rfl, h2, hb1⟩; have hq1 := Lib.hid (q1.out.trans hb1); have h2 := Lib.hid h2; replace k1 := Lib.hid (k1.out.keep hb1); replace h1 := Lib.hid (h1.out.keep hb1); clear hb1)
          refine under_name (w0 := V2) (by (repeat (first | with_reducible exact Bel.refl _ | with_reducible refine Bel.setCell ?_ (by first | exact Nat.le_refl _ | (dsimp only; omega)) _ | with_reducible refine Bel.alloc ?_ _ | with_reducible refine Bel.drew ?_ | with_reducible assumption | with_reducible refine Bel.trans ?_ (by assumption)))) fun W2 hcc hf hz hb2 => ?_
          have k2 : XFree W2 V2.heap.size o2 ⟨vk2, vn2, vs2, vt2, vm2⟩ bn2 A2 n2 c2 := by simp [XFree, ExAt, hcc, hf, hz, go_sem]
          clear hcc hf hz
          generalize V2.heap.size = N2 at k2
          replace k2 := Lib.hid k2
          replace h2 := Lib.hid (h2.out.keep hb2)
          have q2 := Lib.hid (hq1.out.trans hb2)
          replace k1 := Lib.hid (k1.out.keep hb2)
          replace h1 := Lib.hid (h1.out.keep hb2)
          clear hb2 hq1
          go_upto_region 7 with (go_at_call 9; (with_reducible refine Calls.mono (CA.out _ q2.out) ?_); rintro e V3 ⟨rfl, hb3⟩; have hhb3 := Lib.hid hb3; clear hb3)
          replace q2 := Lib.hid (q2.out.trans hhb3.out)
          clear k1 h1 k2 h2
          go_upto_region 8 with (go_at_call 15; (with_reducible refine Calls.mono (CZ.out _ q2.out) ?_); rintro e V4 ⟨A3, c3, rfl, h3, hb1⟩; have hq1 := Lib.hid (q2.out.trans hb1); have h3 := Lib.hid h3; clear hb1)
          refine under_name (w0 := V4) (by (repeat (first | with_reducible exact Bel.refl _ | with_reducible refine Bel.setCell ?_ (by first | exact Nat.le_refl _ | (dsimp only; omega)) _ | with_reducible refine Bel.alloc ?_ _ | with_reducible refine Bel.drew ?_ | with_reducible assumption | with_reducible refine Bel.trans ?_ (by assumption)))) fun W4 hcc hf hz hb2 => ?_
          have k3 : XFree W4 V4.heap.size o3 ⟨vk3, vn3, vs3, vt3, vm3⟩ bn3 A3 n3 c3 := by simp [XFree, ExAt, hcc, hf, hz, go_sem]
          clear hcc hf hz
          generalize V4.heap.size = N3 at k3
          replace k3 := Lib.hid k3
          replace h3 := Lib.hid (h3.out.keep hb2)
          have q3 := Lib.hid (hq1.out.trans hb2)
          clear hb2 hq1
          go_upto_region 9 with (go_at_call 15; (with_reducible refine Calls.mono (CW.out _ q3.out) ?_); rintro e V5 ⟨A4, c4, rfl, h4, hb1⟩; have hq1 := Lib.hid (q3.out.trans hb1); have h4 := Lib.hid h4; clear hb1)
          refine under_name (w0 := V5) (by (repeat (first | with_reducible exact Bel.refl _ | with_reducible refine Bel.setCell ?_ (by first | exact Nat.le_refl _ | (dsimp only; omega)) _ | with_reducible refine Bel.alloc ?_ _ | with_reducible refine Bel.drew ?_ | with_reducible assumption | with_reducible refine Bel.trans ?_ (by assumption)))) fun W5 hcc hf hz hb2 => ?_
          have k4 : XFree W5 V5.heap.size o4 ⟨vk4, vn4, vs4, vt4, vm4⟩ bn4 A4 n4 c4 := by simp [XFree, ExAt, hcc, hf, hz, go_sem]
          clear hcc hf hz
          generalize V5.heap.size = N4 at k4
          replace k4 := Lib.hid k4
          replace h4 := Lib.hid (h4.out.keep hb2)
          have q4 := Lib.hid (hq1.out.trans hb2)
          clear hb2 hq1
          go_wp2_with fail
          go_ret
          exact ⟨rfl, q4.out⟩
      · have CP := Lib.hid fun W (hW : Bel w W) => eparse_is (s := s) (x := (parE s).1) (n := (parE s).2.1) (e := (parE s).2.2) rfl hs W (hm.keep hW)
        have CQ := Lib.hid fun W (hW : Bel w W) => eparse_is (s := t) (x := (parE t).1) (n := (parE t).2.1) (e := (parE t).2.2) rfl ht W (hm.keep hW)
        have hor : (parE s).2.2 = 0 ∧ (((parE t).2.2 : Int) != 0) = true ∨ (((parE s).2.2 : Int) != 0) = true := by
          rcases Nat.eq_zero_or_pos (parE s).2.2 with h | h
          · exact .inl ⟨h, by rw [bne_iff_ne]; intro e; exact he ⟨h, by omega⟩⟩
          · exact .inr (by rw [bne_iff_ne]; omega)
        generalize parE s = R at CP hor
        generalize parE t = S at CQ hor
        obtain ⟨⟨o1, ⟨vk1, vn1, vs1, vt1, vm1⟩, nm1, ks1⟩, pl1, er1⟩ := R
        obtain ⟨⟨o2, ⟨vk2, vn2, vs2, vt2, vm2⟩, nm2, ks2⟩, pl2, er2⟩ := S
        simp only [Ex.op, Ex.v, Ex.nm, Ex.ks] at CP
        generalize bytesOf nm1 = bn1 at CP
        generalize hnk1 : ks1.length = n1 at CP
        clear hnk1
        simp only [Ex.op, Ex.v, Ex.nm, Ex.ks] at CQ
        generalize bytesOf nm2 = bn2 at CQ
        generalize hnk2 : ks2.length = n2 at CQ
        clear hnk2
        simp only at hor CP CQ
        clear hs ht hT hm he
        rcases hor with ⟨rfl, g1⟩ | g1
        all_goals
          go_enter Tryz.func7, Tryz.ntmps7
          go_upto_region 4 with (go_at_call 15; (with_reducible refine Calls.mono (CP.out _ (Bel.refl w)) ?_); rintro e V1 ⟨A1, c1, rfl, h1, hb1⟩; have hq1 := Lib.hid ((Bel.refl w).trans hb1); have h1 := Lib.hid h1; clear hb1)
          refine under_name (w0 := V1) (by (repeat (first | with_reducible exact Bel.refl _ | with_reducible refine Bel.setCell ?_ (by first | exact Nat.le_refl _ | (dsimp only; omega)) _ | with_reducible refine Bel.alloc ?_ _ | with_reducible refine Bel.drew ?_ | with_reducible assumption | with_reducible refine Bel.trans ?_ (by assumption)))) fun W1 hcc hf hz hb2 => ?_
          have k1 : XFree W1 V1.heap.size o1 ⟨vk1, vn1, vs1, vt1, vm1⟩ bn1 A1 n1 c1 := by simp [XFree, ExAt, hcc, hf, hz, go_sem]
          clear hcc hf hz
          generalize V1.heap.size = N1 at k1
          replace k1 := Lib.hid k1
          replace h1 := Lib.hid (h1.out.keep hb2)
          have q1 := Lib.hid (hq1.out.trans hb2)
          clear hb2 hq1
          go_upto_region 5 with (go_at_call 15; (with_reducible refine Calls.mono (CQ.out _ q1.out) ?_); rintro e V2 ⟨A2, c2, rfl, h2, hb1⟩; have hq1 := Lib.hid (q1.out.trans hb1); have h2 := Lib.hid h2; replace k1 := Lib.hid (k1.out.keep hb1); replace h1 := Lib.hid (h1.out.keep hb1); clear hb1)
          refine under_name (w0 := V2) (by (repeat (first | with_reducible exact Bel.refl _ | with_reducible refine Bel.setCell ?_ (by first | exact Nat.le_refl _ | (dsimp only; omega)) _ | with_reducible refine Bel.alloc ?_ _ | with_reducible refine Bel.drew ?_ | with_reducible assumption | with_reducible refine Bel.trans ?_ (by assumption)))) fun W2 hcc hf hz hb2 => ?_
          have k2 : XFree W2 V2.heap.size o2 ⟨vk2, vn2, vs2, vt2, vm2⟩ bn2 A2 n2 c2 := by simp [XFree, ExAt, hcc, hf, hz, go_sem]
          clear hcc hf hz
          generalize V2.heap.size = N2 at k2
          replace k2 := Lib.hid k2
          replace h2 := Lib.hid (h2.out.keep hb2)
          have q2 := Lib.hid (hq1.out.trans hb2)
          replace k1 := Lib.hid (k1.out.keep hb2)
          replace h1 := Lib.hid (h1.out.keep hb2)
          clear hb2 hq1
          go_upto_region 6 with (go_at_call 9; (with_reducible refine Calls.mono (CA.out _ q2.out) ?_); rintro e V3 ⟨rfl, hb3⟩; have hhb3 := Lib.hid hb3; clear hb3)
          go_wp2_with (go_at_call 9; (with_reducible refine Calls.mono (CA.out _ (q2.out.trans hhb3.out)) ?_); rintro e V4 ⟨rfl, hb4⟩; have hhb4 := Lib.hid hb4; clear hb4)
          go_ret
          exact ⟨rfl, (q2.out.trans hhb3.out).trans hhb4.out⟩
    · have hti : (1000 : Int) < (t.size : Int) := by omega
      clear hs ht hT hm
      go_enter Tryz.func7, Tryz.ntmps7
      go_wp2_with (go_at_call 9; (with_reducible refine Calls.mono (CA.out _ (Bel.refl w)) ?_); rintro e V4 ⟨rfl, hb4⟩; have hhb4 := Lib.hid hb4; clear hb4)
      go_ret
      exact ⟨rfl, hhb4.out⟩
  · have hsi : (1000 : Int) < (s.size : Int) := by omega
    clear hs ht hT hm
    go_enter Tryz.func7, Tryz.ntmps7
    go_wp2_with (go_at_call 9; (with_reducible refine Calls.mono (CA.out _ (Bel.refl w)) ?_); rintro e V4 ⟨rfl, hb4⟩; have hhb4 := Lib.hid hb4; clear hb4)
    go_ret
    exact ⟨rfl, hhb4.out⟩
end Go.Proofs.YthfkbonbgdioaaaGreatDoor
