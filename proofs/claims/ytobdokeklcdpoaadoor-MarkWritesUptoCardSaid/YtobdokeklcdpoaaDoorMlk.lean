import Derived.Test.YtobdokeklcdpoaaDoorMlj
namespace Go.Proofs.YtobdokeklcdpoaaDoor
set_option linter.unusedSimpArgs false
set_option linter.unusedVariables false
open Go.RowKit

/-! The second text of marks: the walk. -/
theorem markT_le (m : Mk) (h : Sml m) : (markT m).length ≤ 7696640000000 := by
  obtain ⟨h1, h2, h3⟩ := markT_parts m h
  unfold markT
  split
  · omega
  · split
    · simp only [List.length_cons, List.length_append, List.length_nil]
      omega
    · simp only [List.length_cons, List.length_append, List.length_nil]
      split <;> simp only [List.length_cons, List.length_nil] <;> omega
theorem flat_le (al : List (List UInt8 × List UInt8)) (hs : ∀ a ∈ al, AtSml a) (hl : al.length ≤ 1048576) (k : Nat) : ((al.take k).flatMap attT).length ≤ 7696630087680 := by
  have h := markT_parts ⟨1, 0, [], al.take k, []⟩ ⟨by simp, by simp, by simp only [List.length_take]; omega, fun a ha => hs a (List.mem_of_mem_take ha)⟩
  exact h.2.2
theorem bytes_ne {x y : List UInt8} (h : ¬ x = y) : bytesOf x ≠ bytesOf y := fun e => h (by have := congrArg (fun s => s.data.toList) e; simpa [bytesOf] using this)
set_option maxRecDepth 100000 in
set_option maxHeartbeats 16000000 in
theorem rtext_any (ms : List Mk) (A : Option Addr) (c : Nat) (w : World) (hM : Mks w A ms) (hs : ∀ m ∈ ms, Sml m) (hl : ms.length ≤ 1048576) :
    Calls Tryd.prog 8 #[.slice A ms.length c] w fun e w' => e = .returned (textV ms) ∧ Bel w w' := by
  have KM := Lib.hid hM
  have HS := Lib.hid hs
  have li : (ms.length : Int) ≤ 1048576 := by omega
  clear hM hs
  go_enter Tryd.func8, Tryd.ntmps8
  go_wp2
  go_loopg [4, 5, 6] ms.length (fun g ov fv iv wr => ∃ (i : Nat) (o : ByteArray) (fl : Bool), ov = .string o ∧ fv = .bool fl ∧ iv = .int .i64 i ∧ i ≤ ms.length ∧ (o.size : Int) ≤ 65536 ∧ Hid (g = ms.length - i) ∧ Hid (OutL ms i o fl) ∧ Hid (Bel w wr))
  case atStart => exact ⟨0, ⟨#[]⟩, false, rfl, rfl, rfl, Nat.zero_le _, by decide, Lib.hid rfl, Lib.hid (OutL.start ms), Lib.hid (Bel.refl _)⟩
  case round =>
    obtain ⟨i, o, fl, rfl, rfl, rfl, hi, hoz, hg, hO, hb⟩ := hrel
    by_cases hlt : i < ms.length
    · have i1 : (i : Int) < ms.length := by omega
      have i0 : (0 : Int) ≤ (i : Int) := by omega
      obtain ⟨m, hmi⟩ : ∃ m, ms[i]? = some m := ⟨_, List.getElem?_eq_getElem hlt⟩
      have HMI := Lib.hid hmi
      have HMEM := Lib.hid (List.mem_of_getElem? hmi)
      have hsm := Lib.hid (HS.out m HMEM.out)
      obtain ⟨b3, o3, rfl, hlt3, hat⟩ := KM.out (by omega)
      obtain ⟨A1, c1, k0, k1, k2, k3, k4, k5⟩ := hat i m hmi
      have K5 := Lib.hid fun W (hW : Bel w W) => k5.keep hW
      replace k0 := (hb.out.cells _ _ hlt3).trans k0
      replace k1 := (hb.out.cells _ _ hlt3).trans k1
      replace k2 := (hb.out.cells _ _ hlt3).trans k2
      replace k3 := (hb.out.cells _ _ hlt3).trans k3
      replace k4 := (hb.out.cells _ _ hlt3).trans k4
      have z1 := Nat.lt_of_lt_of_le hlt3 hb.out.size
      have BAD := Lib.hid (textV_bad (ms := ms) HMEM.out)
      obtain ⟨MM, hMM⟩ : ∃ MM, MM = m := ⟨_, rfl⟩
      have HEQ := Lib.hid hMM
      rw [← hMM] at BAD HMI
      clear hMM HMEM
      obtain ⟨kd, ps, nm, al, tx⟩ := m
      simp only at k0 k1 k2 k3 k4
      obtain ⟨s1, s2, s3, s4⟩ := hsm.out
      have hbx : BoxM (wr.alloc (.cells #[.int .i64 kd, .int .i64 ps, .string (bytesOf nm), .slice A1 al.length c1, .string (bytesOf tx)] 31)) wr.heap.size ⟨kd, ps, nm, al, tx⟩ A1 c1 := heap_alloc_new wr _
      have hbw := hb.out.trans ((Bel.refl wr).alloc (.cells #[.int .i64 kd, .int .i64 ps, .string (bytesOf nm), .slice A1 al.length c1, .string (bytesOf tx)] 31))
      have HBX := Lib.hid hbx
      have HBW := Lib.hid hbw
      have HS4 := Lib.hid s4
      clear hat hmi k5 hlt hbx hbw s4
      simp only at s1 s2 s3 HS4
      have al0 : (al.length : Int) ≤ 1048576 := by omega
      have hal0 : al.length ≤ 1048576 := s3
      go_upto_region 7 with fail
      generalize (wr.alloc (.cells #[.int .i64 kd, .int .i64 ps, .string (bytesOf nm), .slice A1 al.length c1, .string (bytesOf tx)] 31)) = W1 at HBX HBW ⊢
      generalize wr.heap.size = N at HBX ⊢
      clear k0 k1 k2 k3 k4 z1 hlt3
      obtain ⟨n0, n2, n3, n4⟩ := BoxM.cells HBX.out
      simp only at n0 n2 n3 n4
      have hN := HBX.out.lt
      go_upto_if 27 with (fail)
      go_cut [8, 9, 10, 11, 12, 13, 14] from 15 to 167 (fun sv _ _ _ _ _ _ wx => sv = .string (bytesOf (markT MM)) ∧ Hid (sndM MM = true) ∧ Hid (Bel W1 wx))
      case first =>
        by_cases k3 : kd = 3
        · subst k3
          have SD := Lib.hid (show sndM MM = (nm.isEmpty && al.isEmpty && goodL tx) from by rw [HEQ.out]; rfl)
          have MT := Lib.hid (show markT MM = escL tx from by rw [HEQ.out]; rfl)
          cases hg : goodL tx with
          | false =>
            have C := Lib.hid (esc_bad tx s2 hg)
            have B2 := Lib.hid (BAD.out (by rw [SD.out, hg, Bool.and_false]))
            clear hg
            go_wp2_with (go_at_call 18; refine (C.out _).mono ?_; rintro e W2 ⟨rfl, hw⟩; obtain rfl := hw.symm)
            go_ret2
            rw [B2.out]
            exact ⟨rfl, HBW.out⟩
          | true =>
            have C := Lib.hid (esc_good tx s2 hg)
            by_cases hn : nm = []
            · have he := empty_of hn
              by_cases ha : al = []
              · have hal : ¬ (0 : Int) < (al.length : Int) := by rw [ha]; decide
                have OKS := Lib.hid (show sndM MM = true from by rw [SD.out, hg, hn, ha]; rfl)
                clear hg hn ha
                go_wp2_with (go_at_call 18; refine (C.out _).mono ?_; rintro e W2 ⟨rfl, hw⟩; obtain rfl := hw.symm)
                go_meet
                exact ⟨by rw [MT.out], OKS, Lib.hid (Bel.refl _)⟩
              · have hal : (0 : Int) < (al.length : Int) := by have := List.length_pos_iff.2 ha; omega
                have B2 := Lib.hid (BAD.out (by rw [SD.out]; cases al with
                  | nil => exact absurd rfl ha
                  | cons _ _ => simp))
                clear hg hn ha
                go_wp2_with (go_at_call 18; refine (C.out _).mono ?_; rintro e W2 ⟨rfl, hw⟩; obtain rfl := hw.symm)
                go_ret2
                rw [B2.out]
                exact ⟨rfl, HBW.out⟩
            · have he := empty_no hn
              have B2 := Lib.hid (BAD.out (by rw [SD.out]; cases nm with
                | nil => exact absurd rfl hn
                | cons _ _ => rfl))
              clear hg hn
              go_wp2_with (go_at_call 18; refine (C.out _).mono ?_; rintro e W2 ⟨rfl, hw⟩; obtain rfl := hw.symm)
              go_ret2
              rw [B2.out]
              exact ⟨rfl, HBW.out⟩
        · have hk3 : (kd == 3) = false := by simpa using k3
          have SD := Lib.hid (show sndM MM = (if kd = 2 then tx.isEmpty && nmOk nm && al.isEmpty else if kd = 1 ∨ kd = 4 then tx.isEmpty && nmOk nm && attsOk [] al else false) from by rw [HEQ.out]; exact if_neg k3)
          have MT0 := Lib.hid (show markT MM = (if kd = 2 then 60 :: 47 :: (nm ++ [62]) else 60 :: (nm ++ (al.flatMap attT ++ ((if kd = 4 then [47] else []) ++ [62])))) from by rw [HEQ.out]; exact if_neg k3)
          by_cases hk1 : kd < 1
          · have B2 := Lib.hid (BAD.out (by rw [SD.out, if_neg (by omega), if_neg (by omega)]))
            clear k3
            go_wp2
            go_ret2
            rw [B2.out]
            exact ⟨rfl, HBW.out⟩
          by_cases hk4 : 4 < kd
          · have B2 := Lib.hid (BAD.out (by rw [SD.out, if_neg (by omega), if_neg (by omega)]))
            clear k3
            go_wp2
            go_ret2
            rw [B2.out]
            exact ⟨rfl, HBW.out⟩
          by_cases ht : tx = []
          case neg =>
            have he := empty_no ht
            have B2 := Lib.hid (BAD.out (by
              have : tx.isEmpty = false := by simpa using ht
              rw [SD.out, this]
              simp))
            clear k3 ht
            go_wp2
            go_ret2
            rw [B2.out]
            exact ⟨rfl, HBW.out⟩
          have he := empty_of ht
          have hte : tx.isEmpty = true := by rw [ht]; rfl
          clear ht
          cases hq : nmOk nm with
          | false =>
            have CN := Lib.hid (name_of nm s1 false hq)
            have B2 := Lib.hid (BAD.out (by rw [SD.out, hq]; simp))
            clear k3 hq hte
            go_wp2_with (go_at_call 19; refine (CN.out _).mono ?_; rintro e W2 ⟨rfl, hw⟩; obtain rfl := hw.symm)
            go_ret2
            rw [B2.out]
            exact ⟨rfl, HBW.out⟩
          | true =>
            have CN := Lib.hid (name_of nm s1 true hq)
            by_cases hk2 : kd = 2
            · have hk2t : (kd == 2) = true := by simpa using hk2
              by_cases ha : al = []
              case neg =>
                have hal : (0 : Int) < (al.length : Int) := by have := List.length_pos_iff.2 ha; omega
                have B2 := Lib.hid (BAD.out (by
                  have : al.isEmpty = false := by simpa using ha
                  rw [SD.out, this, if_pos hk2, Bool.and_false]))
                clear k3 hk2 hq hte ha
                go_wp2_with (go_at_call 19; refine (CN.out _).mono ?_; rintro e W2 ⟨rfl, hw⟩; obtain rfl := hw.symm)
                go_ret2
                rw [B2.out]
                exact ⟨rfl, HBW.out⟩
              have hal : ¬ (0 : Int) < (al.length : Int) := by rw [ha]; decide
              have SN := Lib.hid (show sndM MM = attsOk [] al from by rw [SD.out, if_pos hk2, hte, hq, ha]; rfl)
              obtain ⟨pre, hpre⟩ : ∃ pre, pre = 60 :: 47 :: nm := ⟨_, rfl⟩
              have MT := Lib.hid (show markT MM = pre ++ (al.flatMap attT ++ ((if kd = 4 then [47] else []) ++ [62])) from by rw [MT0.out, if_pos hk2, if_neg (by omega), ha, hpre]; rfl)
              have ES := Lib.hid (show (⟨#[60, 47]⟩ : ByteArray) ++ bytesOf nm = bytesOf pre from by
                rw [show (⟨#[60, 47]⟩ : ByteArray) = bytesOf [60, 47] from rfl, bytes_app, hpre]
                rfl)
              have hpl : pre.length = nm.length + 2 := by rw [hpre]; rfl
              have PZ := Lib.hid fun k => flat_le al HS4.out hal0 k
              clear k3 hk2 hq hte ha hpre
              have hpz : (pre.length : Int) ≤ 1048600 := by omega
              have hz : (bytesOf nm).size = nm.length := bytesOf_size nm
              go_wp2_with (go_at_call 19; refine (CN.out _).mono ?_; rintro e W2 ⟨rfl, hw⟩; obtain rfl := hw.symm)
              go_loopg [8, 11] al.length (fun g sv kv wq => ∃ (k : Nat) (q : ByteArray), sv = .string q ∧ kv = .int .i64 k ∧ k ≤ al.length ∧ Hid (g = al.length - k) ∧ Hid (q = bytesOf (pre ++ (al.take k).flatMap attT)) ∧ Hid (Bel W1 wq) ∧ Hid (∀ (j : Nat) (a : List UInt8 × List UInt8), j < k → al[j]? = some a → nmOk a.1 = true ∧ goodL a.2 = true ∧ ∀ (j' : Nat) (b : List UInt8 × List UInt8), j' < j → al[j']? = some b → b.1 ≠ a.1))
              case atStart => exact ⟨0, _, rfl, rfl, Nat.zero_le _, Lib.hid rfl, Lib.hid (by rw [ES.out]; simp), Lib.hid (Bel.refl _), Lib.hid (fun j a h => by omega)⟩
              case round =>
                obtain ⟨k, q, rfl, rfl, hk, hg2, hq, hb2, hok⟩ := hrel
                obtain ⟨wq, rfl⟩ : ∃ x, x = wr := ⟨_, rfl⟩
                have hqz : (q.size : Int) ≤ 7696632000000 := by
                  have h1 := PZ.out k
                  rw [hq.out, bytesOf_size, List.length_append]
                  omega
                clear n0 n2 n3 n4
                obtain ⟨n0, n2, n3, n4⟩ := BoxM.cells (HBX.out.keep hb2.out)
                simp only at n0 n2 n3 n4
                have hN2 := Nat.lt_of_lt_of_le hN hb2.out.size
                by_cases hkl : k < al.length
                · exfalso
                  omega
                · obtain rfl : k = al.length := by omega
                  have OKS := Lib.hid (show sndM MM = true from by
                    rw [SN.out]
                    exact (attsOk_iff al []).2 fun k a ha => ⟨by simp, (hok.out k a (List.getElem?_eq_some_iff.1 ha).1 ha)⟩)
                  have HQ := Lib.hid (show q = bytesOf (pre ++ al.flatMap attT) from by rw [hq.out, List.take_length])
                  clear hq hkl
                  by_cases hk4' : kd = 4
                  · have MT2 := Lib.hid (show q ++ (⟨#[47]⟩ : ByteArray) ++ (⟨#[62]⟩ : ByteArray) = bytesOf (markT MM) from by
                      rw [HQ.out, MT.out, if_pos hk4', show (⟨#[47]⟩ : ByteArray) = bytesOf [47] from rfl, show (⟨#[62]⟩ : ByteArray) = bytesOf [62] from rfl, bytes_app, bytes_app]
                      congr 1
                      simp)
                    have hk4t : (kd == 4) = true := by simpa using hk4'
                    clear hk4'
                    go_wp2
                    go_meet
                    exact ⟨by rw [MT2.out], OKS, hb2⟩
                  · have MT2 := Lib.hid (show q ++ (⟨#[62]⟩ : ByteArray) = bytesOf (markT MM) from by
                      rw [HQ.out, MT.out, if_neg hk4', show (⟨#[62]⟩ : ByteArray) = bytesOf [62] from rfl, bytes_app]
                      congr 1
                      simp)
                    have hk4f : (kd == 4) = false := by simpa using hk4'
                    clear hk4'
                    go_wp2
                    go_meet
                    exact ⟨by rw [MT2.out], OKS, hb2⟩
            · have hk2f : (kd == 2) = false := by simpa using hk2
              have k14 : kd = 1 ∨ kd = 4 := by omega
              have SN := Lib.hid (show sndM MM = attsOk [] al from by rw [SD.out, if_neg hk2, if_pos k14, hte, hq]; simp)
              obtain ⟨pre, hpre⟩ : ∃ pre, pre = 60 :: nm := ⟨_, rfl⟩
              have MT := Lib.hid (show markT MM = pre ++ (al.flatMap attT ++ ((if kd = 4 then [47] else []) ++ [62])) from by rw [MT0.out, if_neg hk2, hpre]; rfl)
              have ES := Lib.hid (show (⟨#[60]⟩ : ByteArray) ++ bytesOf nm = bytesOf pre from by
                rw [show (⟨#[60]⟩ : ByteArray) = bytesOf [60] from rfl, bytes_app, hpre]
                rfl)
              have hpl : pre.length = nm.length + 1 := by rw [hpre]; rfl
              have PZ := Lib.hid fun k => flat_le al HS4.out hal0 k
              clear k3 hk2 k14 hq hte hpre
              have hpz : (pre.length : Int) ≤ 1048600 := by omega
              have hz : (bytesOf nm).size = nm.length := bytesOf_size nm
              go_wp2_with (go_at_call 19; refine (CN.out _).mono ?_; rintro e W2 ⟨rfl, hw⟩; obtain rfl := hw.symm)
              go_loopg [8, 11] al.length (fun g sv kv wq => ∃ (k : Nat) (q : ByteArray), sv = .string q ∧ kv = .int .i64 k ∧ k ≤ al.length ∧ Hid (g = al.length - k) ∧ Hid (q = bytesOf (pre ++ (al.take k).flatMap attT)) ∧ Hid (Bel W1 wq) ∧ Hid (∀ (j : Nat) (a : List UInt8 × List UInt8), j < k → al[j]? = some a → nmOk a.1 = true ∧ goodL a.2 = true ∧ ∀ (j' : Nat) (b : List UInt8 × List UInt8), j' < j → al[j']? = some b → b.1 ≠ a.1))
              case atStart => exact ⟨0, _, rfl, rfl, Nat.zero_le _, Lib.hid rfl, Lib.hid (by rw [ES.out]; simp), Lib.hid (Bel.refl _), Lib.hid (fun j a h => by omega)⟩
              case round =>
                obtain ⟨k, q, rfl, rfl, hk, hg2, hq, hb2, hok⟩ := hrel
                obtain ⟨wq, rfl⟩ : ∃ x, x = wr := ⟨_, rfl⟩
                have hqz : (q.size : Int) ≤ 7696632000000 := by
                  have h1 := PZ.out k
                  rw [hq.out, bytesOf_size, List.length_append]
                  omega
                clear n0 n2 n3 n4
                obtain ⟨n0, n2, n3, n4⟩ := BoxM.cells (HBX.out.keep hb2.out)
                simp only at n0 n2 n3 n4
                have hN2 := Nat.lt_of_lt_of_le hN hb2.out.size
                by_cases hkl : k < al.length
                · have j1 : (k : Int) < al.length := by omega
                  have j0 : (0 : Int) ≤ (k : Int) := by omega
                  obtain ⟨a, ha⟩ : ∃ a, al[k]? = some a := ⟨_, List.getElem?_eq_getElem hkl⟩
                  have ham := HS4.out a (List.mem_of_getElem? ha)
                  have FM := Lib.hid (show (al.take (k + 1)).flatMap attT = (al.take k).flatMap attT ++ attT a from by rw [take_snoc ha, List.flatMap_append]; simp)
                  have HA := Lib.hid ha
                  obtain ⟨b4, o4, rfl, hlt4, q0, q1⟩ := ats_at (K5.out wq (HBW.out.trans hb2.out)) ha
                  have ANY := Lib.hid fun (h : attsOk [] al = true) => (attsOk_iff al []).1 h k a ha
                  obtain ⟨x, y⟩ := a
                  simp only at q0 q1
                  unfold AtSml at ham
                  simp only at ham
                  have hzx : (bytesOf x).size = x.length := bytesOf_size x
                  have hzy : (bytesOf (escL y)).size = (escL y).length := bytesOf_size _
                  have hey := escL_len y
                  clear ha hkl
                  cases hgy : goodL y with
                  | false =>
                    have CY := Lib.hid (esc_bad y ham.2 hgy)
                    have B2 := Lib.hid (BAD.out (by
                      rw [SN.out]
                      cases h : attsOk [] al with
                      | false => rfl
                      | true => have := (ANY.out h).2.2.1; rw [hgy] at this; cases this))
                    clear hgy
                    go_wp2_with (go_at_call 18; refine (CY.out _).mono ?_; rintro e W2 ⟨rfl, hw⟩; obtain rfl := hw.symm)
                    go_ret2
                    rw [B2.out]
                    exact ⟨rfl, HBW.out.trans hb2.out⟩
                  | true =>
                    have CY := Lib.hid (esc_good y ham.2 hgy)
                    cases hnx : nmOk x with
                    | false =>
                      have CX := Lib.hid (name_of x ham.1 false hnx)
                      have B2 := Lib.hid (BAD.out (by
                        rw [SN.out]
                        cases h : attsOk [] al with
                        | false => rfl
                        | true => have := (ANY.out h).2.1; rw [hnx] at this; cases this))
                      clear hgy hnx
                      go_wp2_with (first
                        | (go_at_call 18; refine (CY.out _).mono ?_; rintro e W2 ⟨rfl, hw⟩; obtain rfl := hw.symm)
                        | (go_at_call 19; refine (CX.out _).mono ?_; rintro e W2 ⟨rfl, hw⟩; obtain rfl := hw.symm))
                      go_ret2
                      rw [B2.out]
                      exact ⟨rfl, HBW.out.trans hb2.out⟩
                    | true =>
                      have CX := Lib.hid (name_of x ham.1 true hnx)
                      have GX := Lib.hid (And.intro hnx hgy)
                      clear hgy hnx
                      go_wp2_with (first
                        | (go_at_call 18; refine (CY.out _).mono ?_; rintro e W2 ⟨rfl, hw⟩; obtain rfl := hw.symm)
                        | (go_at_call 19; refine (CX.out _).mono ?_; rintro e W2 ⟨rfl, hw⟩; obtain rfl := hw.symm))
                      go_loopg [14] k (fun g jv wj => ∃ j : Nat, jv = .int .i64 j ∧ j ≤ k ∧ Hid (g = k - j) ∧ Hid (Bel wq wj) ∧ Hid (∀ (j' : Nat) (b : List UInt8 × List UInt8), j' < j → al[j']? = some b → b.1 ≠ x))
                      case atStart => exact ⟨0, rfl, Nat.zero_le _, Lib.hid rfl, Lib.hid (Bel.refl _), Lib.hid (fun j' b h => by omega)⟩
                      case round =>
                        obtain ⟨j, rfl, hj, hg3, hb3, hnq⟩ := hrel
                        obtain ⟨wj, rfl⟩ : ∃ x, x = wr := ⟨_, rfl⟩
                        clear n0 n2 n3 n4 q0 q1
                        obtain ⟨n0, n2, n3, n4⟩ := BoxM.cells (HBX.out.keep (hb2.out.trans hb3.out))
                        simp only at n0 n2 n3 n4
                        have hN3 := Nat.lt_of_lt_of_le hN2 hb3.out.size
                        obtain ⟨b5, o5, e5, hlt5, q0, q1⟩ := ats_at (K5.out wj (HBW.out.trans (hb2.out.trans hb3.out))) HA.out
                        cases e5
                        simp only at q0 q1
                        by_cases hjk : j < k
                        · have t1 : (j : Int) < (k : Int) := by omega
                          have t2 : (j : Int) < al.length := by omega
                          have t0 : (0 : Int) ≤ (j : Int) := by omega
                          obtain ⟨b, hbj⟩ : ∃ b, al[j]? = some b := ⟨_, List.getElem?_eq_getElem (by omega)⟩
                          have HBJ := Lib.hid hbj
                          obtain ⟨b6, o6, e6, hlt6, r0, r1⟩ := ats_at (K5.out wj (HBW.out.trans (hb2.out.trans hb3.out))) hbj
                          cases e6
                          have ANB := Lib.hid fun (h : attsOk [] al = true) => ((attsOk_iff al []).1 h k (x, y) HA.out).2.2.2 j b hjk hbj
                          have NXT := Lib.hid fun (hxx : b.1 ≠ x) => show ∀ (j' : Nat) (b : List UInt8 × List UInt8), j' < j + 1 → al[j']? = some b → b.1 ≠ x from fun j' c hj' hc => by
                            by_cases hjj : j' = j
                            · subst hjj
                              rw [HBJ.out] at hc
                              cases hc
                              exact hxx
                            · exact hnq.out j' c (by omega) hc
                          obtain ⟨x', y'⟩ := b
                          simp only at r0 r1
                          have hjx : ((j : Int) + 1) = ((j + 1 : Nat) : Int) := by omega
                          clear hbj
                          by_cases hxx : x' = x
                          · subst hxx
                            have B2 := Lib.hid (BAD.out (by
                              rw [SN.out]
                              cases h : attsOk [] al with
                              | false => rfl
                              | true => exact absurd rfl (ANB.out h)))
                            clear hjx hq
                            go_wp2
                            go_region
                            all_goals
                              go_wp2
                              go_ret2
                              rw [B2.out]
                              refine ⟨rfl, ?_⟩
                              have _u := (HBW.out.trans hb2.out).trans hb3.out
                              (repeat (first | with_reducible exact Bel.refl _ | with_reducible refine Bel.setCell ?_ (by first | exact Nat.le_refl _ | (dsimp only; omega)) _ | with_reducible refine Bel.alloc ?_ _ | with_reducible refine Bel.drew ?_ | with_reducible assumption | with_reducible refine Bel.trans ?_ (by assumption)))
                          · have hne := bytes_ne hxx
                            have hne1 : ((bytesOf x').toList == (bytesOf x).toList) = false := by rw [ByteArray.toList_eq, ByteArray.toList_eq]; simpa [bytesOf] using hxx
                            have hne2 : ¬ (bytesOf x').toList = (bytesOf x).toList := by rw [ByteArray.toList_eq, ByteArray.toList_eq]; simpa [bytesOf] using hxx
                            have N2 := Lib.hid (NXT.out hxx)
                            clear hjx hxx hq
                            go_wp2
                            go_region
                            all_goals
                              go_wp2
                              go_roundg (k - (j + 1))
                              case measure => have := hg3.out; omega
                              case rel => exact ⟨j + 1, by go_num, by omega, Lib.hid rfl, Lib.hid (by have _u := hb3.out; (repeat (first | with_reducible exact Bel.refl _ | with_reducible refine Bel.setCell ?_ (by first | exact Nat.le_refl _ | (dsimp only; omega)) _ | with_reducible refine Bel.alloc ?_ _ | with_reducible refine Bel.drew ?_ | with_reducible assumption | with_reducible refine Bel.trans ?_ (by assumption)))), N2⟩
                        · obtain rfl : j = k := by omega
                          have ES2 := Lib.hid (show q ++ ((⟨#[32]⟩ : ByteArray) ++ bytesOf x ++ (⟨#[61, 34]⟩ : ByteArray) ++ bytesOf (escL y) ++ (⟨#[34]⟩ : ByteArray)) = bytesOf (pre ++ (al.take (j + 1)).flatMap attT) from by
                            rw [hq.out, show (⟨#[32]⟩ : ByteArray) = bytesOf [32] from rfl, show (⟨#[61, 34]⟩ : ByteArray) = bytesOf [61, 34] from rfl, show (⟨#[34]⟩ : ByteArray) = bytesOf [34] from rfl, bytes_app, bytes_app, bytes_app, bytes_app, bytes_app, FM.out]
                            congr 1
                            simp [attT])
                          go_wp2
                          go_roundg (al.length - (j + 1))
                          case measure => have := hg2.out; omega
                          case rel =>
                            refine ⟨j + 1, _, rfl, by go_num, by omega, Lib.hid rfl, ES2, Lib.hid (hb2.out.trans hb3.out), Lib.hid fun j' a h1 h2 => ?_⟩
                            by_cases hjj : j' = j
                            · subst hjj
                              rw [HA.out] at h2
                              cases h2
                              exact ⟨GX.out.1, GX.out.2, hnq.out⟩
                            · exact hok.out j' a (by omega) h2
                · obtain rfl : k = al.length := by omega
                  have OKS := Lib.hid (show sndM MM = true from by
                    rw [SN.out]
                    exact (attsOk_iff al []).2 fun k a ha => ⟨by simp, (hok.out k a (List.getElem?_eq_some_iff.1 ha).1 ha)⟩)
                  have HQ := Lib.hid (show q = bytesOf (pre ++ al.flatMap attT) from by rw [hq.out, List.take_length])
                  clear hq hkl
                  by_cases hk4' : kd = 4
                  · have MT2 := Lib.hid (show q ++ (⟨#[47]⟩ : ByteArray) ++ (⟨#[62]⟩ : ByteArray) = bytesOf (markT MM) from by
                      rw [HQ.out, MT.out, if_pos hk4', show (⟨#[47]⟩ : ByteArray) = bytesOf [47] from rfl, show (⟨#[62]⟩ : ByteArray) = bytesOf [62] from rfl, bytes_app, bytes_app]
                      congr 1
                      simp)
                    have hk4t : (kd == 4) = true := by simpa using hk4'
                    clear hk4'
                    go_wp2
                    go_meet
                    exact ⟨by rw [MT2.out], OKS, hb2⟩
                  · have MT2 := Lib.hid (show q ++ (⟨#[62]⟩ : ByteArray) = bytesOf (markT MM) from by
                      rw [HQ.out, MT.out, if_neg hk4', show (⟨#[62]⟩ : ByteArray) = bytesOf [62] from rfl, bytes_app]
                      congr 1
                      simp)
                    have hk4f : (kd == 4) = false := by simpa using hk4'
                    clear hk4'
                    go_wp2
                    go_meet
                    exact ⟨by rw [MT2.out], OKS, hb2⟩
      case rest =>
        obtain ⟨rfl, hsn, hbx⟩ := hcut
        have hLE := bytesOf_size (markT MM)
        have hP := markT_le MM (by rw [HEQ.out]; exact hsm.out)
        generalize hS : bytesOf (markT MM) = S at hLE ⊢
        have hSZ : (S.size : Int) ≤ 7696640000000 := by omega
        have HSE := Lib.hid hS
        clear hS hLE hP
        cases fl with
        | true =>
          go_wp2
          go_roundg (ms.length - (i + 1))
          case measure => have := hg.out; omega
          case rel => exact ⟨i + 1, o, true, rfl, rfl, by go_num, by omega, hoz, Lib.hid rfl, Lib.hid (hO.out.full HMI.out hsn.out), Lib.hid (HBW.out.trans hbx.out)⟩
        | false =>
          by_cases h65 : (65536 : Int) < (o.size : Int) + (S.size : Int)
          · go_wp2
            go_roundg (ms.length - (i + 1))
            case measure => have := hg.out; omega
            case rel => exact ⟨i + 1, o, true, rfl, rfl, by go_num, by omega, hoz, Lib.hid rfl, Lib.hid (hO.out.over HMI.out hsn.out (by rw [HSE.out]; omega)), Lib.hid (HBW.out.trans hbx.out)⟩
          · go_wp2
            go_roundg (ms.length - (i + 1))
            case measure => have := hg.out; omega
            case rel => exact ⟨i + 1, o ++ S, false, rfl, rfl, by go_num, by omega, by rw [ByteArray.size_append]; omega, Lib.hid rfl, Lib.hid (by have h := hO.out.next HMI.out hsn.out (by rw [HSE.out]; omega); rw [HSE.out] at h; exact h), Lib.hid (HBW.out.trans hbx.out)⟩
    · obtain rfl : i = ms.length := by omega
      have D := Lib.hid hO.out.done
      cases fl with
      | true =>
        rw [if_pos rfl] at D
        go_wp2
        go_ret2
        rw [D.out]
        exact ⟨rfl, hb.out⟩
      | false =>
        rw [if_neg (by decide)] at D
        go_wp2
        go_ret2
        rw [D.out]
        exact ⟨rfl, hb.out⟩
end Go.Proofs.YtobdokeklcdpoaaDoor
