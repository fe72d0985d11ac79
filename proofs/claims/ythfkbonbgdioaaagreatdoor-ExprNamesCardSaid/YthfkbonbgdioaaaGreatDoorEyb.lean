import Derived.Test.YthfkbonbgdioaaaGreatDoorExs
namespace Go.Proofs.YthfkbonbgdioaaaGreatDoor
set_option linter.unusedSimpArgs false
set_option linter.unusedVariables false
open Go.RowKit
attribute [local go_sem ↓] eql_val neq_val
/-! The document: the same expressions. -/
theorem okL_mem : ∀ (l : List Ex), okL l = true → ∀ x ∈ l, okX x = true
  | [], _, x, h => by cases h
  | y :: l, h, x, hx => by
    rw [okL, Bool.and_eq_true] at h
    rcases List.mem_cons.1 hx with rfl | hx
    · exact h.1
    · exact okL_mem l h.2 x hx
theorem okX_kids {o : Int} {v : Val} {nm : List UInt8} {ks : List Ex} (h : okX (.mk o v nm ks) = true) : ks.length ≤ 3 ∧ ∀ y ∈ ks, okX y = true := by
  rw [okX, Bool.and_eq_true] at h
  refine ⟨?_, okL_mem ks h.2⟩
  rw [(prt_out h.1).2.2.1]
  unfold kidN
  repeat' split
  all_goals omega
def SmT (x : Ex) : Prop := ∀ (w : World) (A B : Option Addr) (c d : Nat), okX x = true → Lie (fun _ => True) w A x.ks → Lie (fun _ => True) w B x.ks →
  Calls Tryz.prog 13 #[exV x.op x.v (bytesOf x.nm) A x.ks.length c, exV x.op x.v (bytesOf x.nm) B x.ks.length d] w fun r w' => r = .returned (.bool true) ∧ Bel w w'
set_option maxRecDepth 100000 in
set_option maxHeartbeats 8000000 in
theorem same_step (x : Ex) (IH : ∀ y ∈ x.ks, SmT y) : SmT x := by
  intro w A B c d ho hA hB
  obtain ⟨o, ⟨vk, vn, vs, vt, vm⟩, nm, ks⟩ := x
  obtain ⟨hk3, hok⟩ := okX_kids ho
  have HK := Lib.hid fun (q : Nat) (y : Ex) (hy : ks[q]? = some y) => And.intro (IH y (List.mem_of_getElem? hy)) (hok y (List.mem_of_getElem? hy))
  simp only [Ex.op, Ex.v, Ex.nm, Ex.ks] at hA hB ⊢
  generalize bytesOf nm = bn
  obtain ⟨n, hn⟩ : ∃ n, n = ks.length := ⟨_, rfl⟩
  rw [← hn] at hk3 ⊢
  have HA := Lib.hid hA
  have HB := Lib.hid hB
  have HN := Lib.hid hn
  have g1 : (o != o) = false := by simp
  have g2 : (bn.toList != bn.toList) = false := by simp
  have g4 : veq ⟨vk, vn, vs, vt, vm⟩ ⟨vk, vn, vs, vt, vm⟩ = true := (veq_iff _ _).2 rfl
  have g3 : ((n : Int) != (n : Int)) = false := by simp
  have hni : (n : Int) ≤ 3 := by omega
  clear ho hok IH hA hB hn
  go_enter Tryz.func13, Tryz.ntmps13
  go_upto_region 1 with fail
  refine under_name (((Bel.refl w).alloc _).alloc _) fun W hcc hf hz hb => ?_
  have T1 : XFree W w.heap.size o ⟨vk, vn, vs, vt, vm⟩ bn A n c := by simp [XFree, ExAt, hcc, hf, hz, go_sem]
  have T2 : XFree W (w.heap.size + 1) o ⟨vk, vn, vs, vt, vm⟩ bn B n d := by simp [XFree, ExAt, hcc, hf, hz, go_sem]
  clear hcc hf hz
  generalize w.heap.size = N at T1 T2 ⊢
  have L1 := Lib.hid T1
  have L2 := Lib.hid T2
  have HB0 := Lib.hid hb
  clear hb
  obtain ⟨tz, ⟨t0, t1, t2, t3, t4, t5, t6, t7⟩, ⟨tf0, tf1, tf2, tf3, tf4, tf5, tf6, tf7⟩⟩ := T1
  obtain ⟨uz, ⟨u0, u1, u2, u3, u4, u5, u6, u7⟩, ⟨uf0, uf1, uf2, uf3, uf4, uf5, uf6, uf7⟩⟩ := T2
  simp only [Nat.zero_add] at t0 t1 t2 t3 t4 t5 t6 t7 u0 u1 u2 u3 u4 u5 u6 u7
  go_wp2_with fail
  clear tz uz t0 t1 t2 t3 t4 t5 t6 t7 u0 u1 u2 u3 u4 u5 u6 u7 tf0 tf1 tf2 tf3 tf4 tf5 tf6 tf7 uf0 uf1 uf2 uf3 uf4 uf5 uf6 uf7 g1 g2 g3 g4
  go_loopg [5] (n + 1) (fun g iv wr => ∃ k : Nat, iv = .int .i64 k ∧ k ≤ n ∧ Hid (n + 1 - k ≤ g) ∧ Hid (Bel W wr))
  case atStart => exact ⟨0, rfl, Nat.zero_le _, Lib.hid (by omega), Lib.hid (Bel.refl _)⟩
  case round =>
    obtain ⟨k, rfl, hk, hg, hW⟩ := hrel
    obtain ⟨tz, ⟨t0, t1, t2, t3, t4, t5, t6, t7⟩, ⟨tf0, tf1, tf2, tf3, tf4, tf5, tf6, tf7⟩⟩ := L1.out.keep hW.out
    obtain ⟨uz, ⟨u0, u1, u2, u3, u4, u5, u6, u7⟩, ⟨uf0, uf1, uf2, uf3, uf4, uf5, uf6, uf7⟩⟩ := L2.out.keep hW.out
    simp only [Nat.zero_add] at t0 t1 t2 t3 t4 t5 t6 t7 u0 u1 u2 u3 u4 u5 u6 u7
    clear tf0 tf1 tf2 tf3 tf4 tf5 tf6 tf7 uf0 uf1 uf2 uf3 uf4 uf5 uf6 uf7
    by_cases hlt : k < n
    · have w1 : IntKind.i64.wrap ((k : Int) + 1) = ((k + 1 : Nat) : Int) := by rw [IntKind.wrap_i64]; omega
      have l1 : (k : Int) < n := by omega
      have l0 : (0 : Int) ≤ (k : Int) := by omega
      obtain ⟨y, hy⟩ : ∃ y, ks[k]? = some y := ⟨ks[k]'(by have := HN.out; omega), List.getElem?_eq_getElem _⟩
      obtain ⟨b1, o1, rfl, -, hb1, A1, c1, hE1, hL1⟩ := (HA.out.keep (HB0.out.trans hW.out)).get hy
      obtain ⟨b2, o2, rfl, -, hb2, A2, c2, hE2, hL2⟩ := (HB.out.keep (HB0.out.trans hW.out)).get hy
      obtain ⟨HI, hyo⟩ := HK.out k y hy
      have CK := Lib.hid fun X (hX : Bel wr X) => HI X A1 A2 c1 c2 hyo (hL1.keep hX) (hL2.keep hX)
      obtain ⟨yo, ⟨yk, yn, ys, yt, ym⟩, ynm, yks⟩ := y
      simp only [Ex.op, Ex.v, Ex.nm, Ex.ks] at hE1 hE2 CK
      obtain ⟨e0, e1, e2, e3, e4, e5, e6, e7⟩ := hE1
      obtain ⟨d0, d1, d2, d3, d4, d5, d6, d7⟩ := hE2
      clear hy hL1 hL2 HI hyo
      go_wp2_with fail
      refine wp_region_uni (S := (fun w' => Bel wr w' ∧ (∀ b o, b < wr.heap.size → w'.cell? ⟨b, o, none⟩ = wr.cell? ⟨b, o, none⟩))) (by kernel_rfl) (by kernel_rfl) keep0 ?_
      repeat (first | (refine wpUni_skip (by rfl) ?_; (try simp only [Act.put, List.setIfInBounds_toArray, List.set_cons_zero, List.set_cons_succ]))
                                                            | (refine wpUni_value (by rfl) (fun w hS => by (try dsimp only at hS); go_simp; first | done | with_reducible rfl) ?_; (try simp only [Act.put, List.setIfInBounds_toArray, List.set_cons_zero, List.set_cons_succ]))
                                                            | (refine wpUni_call (f := 13) (by rfl) (fun w => by go_simp; first | done | with_reducible rfl) (fun w hS => (CK.out w hS.1).mono fun e w' ⟨he, hb⟩ => ⟨he, keep1 hS hb⟩) ?_; (try simp only [Act.put, List.setIfInBounds_toArray, List.set_cons_zero, List.set_cons_succ])))
      refine wpUni_nil fun W1 hS => ?_
      have hq := Lib.hid (hW.out.trans hS.1)
      clear hS
      go_wp2_with fail
      go_roundg (n + 1 - (k + 1))
      case measure => have := hg.out; omega
      case rel => exact ⟨k + 1, by go_num, by omega, Lib.hid (Nat.le_refl _), hq⟩
    · obtain rfl : k = n := by omega
      go_wp2_with fail
      go_ret
      exact ⟨rfl, HB0.out.trans hW.out⟩
theorem xsame_any : ∀ x : Ex, SmT x := Ex.ind fun op v nm ks IH => same_step (.mk op v nm ks) IH
end Go.Proofs.YthfkbonbgdioaaaGreatDoor
