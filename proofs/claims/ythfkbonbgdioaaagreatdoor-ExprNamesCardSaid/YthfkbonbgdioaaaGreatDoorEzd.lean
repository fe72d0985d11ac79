import Derived.Test.YthfkbonbgdioaaaGreatDoorEzb
import Derived.Test.YthfkbonbgdioaaaGreatDoorEza
namespace Go.Proofs.YthfkbonbgdioaaaGreatDoor
set_option linter.unusedSimpArgs false
set_option linter.unusedVariables false
open Go.RowKit
/-! The laws' own: big, has. -/
mutual
def bgX : Ex → Int → Int → Int
  | .mk _ _ _ ks, d, l => if 80 < d then -1 else bgL ks (IntKind.i64.wrap (d + 1)) (IntKind.i64.wrap (l - 1))
def bgL : List Ex → Int → Int → Int
  | [], _, l => l
  | x :: t, d, l => if 0 ≤ l then bgL t d (bgX x d l) else l
end
def BgC (x : Ex) : Prop := ∀ (w : World) (A : Option Addr) (c : Nat) (d l : Int), lnX x → Lie (fun _ => True) w A x.ks →
  Calls Tryz.prog 8 #[exV x.op x.v (bytesOf x.nm) A x.ks.length c, .int .i64 d, .int .i64 l] w fun r w' => r = .returned (.int .i64 (bgX x d l)) ∧ Bel w w'
set_option maxRecDepth 100000 in
set_option maxHeartbeats 8000000 in
theorem big_step (x : Ex) (IH : ∀ y ∈ x.ks, BgC y) : BgC x := by
  intro w A c d l hln hL
  obtain ⟨o, ⟨vk, vn, vs, vt, vm⟩, nm, ks⟩ := x
  obtain ⟨hl1, hl2⟩ := hln
  simp only [Ex.op, Ex.v, Ex.nm, Ex.ks] at hL ⊢
  have HI := Lib.hid fun (q : Nat) (y : Ex) (hy : ks[q]? = some y) => And.intro (IH y (List.mem_of_getElem? hy)) (lnL_mem hl2 (List.mem_of_getElem? hy))
  have HL := Lib.hid hL
  obtain ⟨bn, hbn⟩ : ∃ b, b = bytesOf nm := ⟨_, rfl⟩
  obtain ⟨n, hn⟩ : ∃ n, n = ks.length := ⟨_, rfl⟩
  rw [← hn] at hl1
  rw [← hn, ← hbn]
  have Hn := Lib.hid hn
  have hni : (n : Int) ≤ 9223372036854775807 := by omega
  clear hl2 IH hL hn hbn
  have HR : bgX (.mk o ⟨vk, vn, vs, vt, vm⟩ nm ks) d l = if 80 < d then -1 else bgL ks (IntKind.i64.wrap (d + 1)) (IntKind.i64.wrap (l - 1)) := by rw [bgX]
  generalize hl1' : IntKind.i64.wrap (l - 1) = l1 at HR
  generalize hD' : IntKind.i64.wrap (d + 1) = D at HR
  generalize bgX (.mk o ⟨vk, vn, vs, vt, vm⟩ nm ks) d l = R at HR ⊢
  by_cases hd : 80 < d
  · rw [if_pos hd] at HR
    replace HR := Lib.hid HR
    go_enter Tryz.func8, Tryz.ntmps8
    go_upto_region 1 with fail
    refine under_name ((Bel.refl w).alloc _) fun W1 hcc hf hz hb => ?_
    have T1 : XFree W1 w.heap.size o ⟨vk, vn, vs, vt, vm⟩ bn A n c := by simp [XFree, ExAt, hcc, hf, hz, go_sem]
    clear hcc hf hz
    generalize w.heap.size = N at T1
    have HB0 := Lib.hid hb
    clear hb
    have L1 := Lib.hid T1
    obtain ⟨tz, ⟨t0, t1, t2, t3, t4, t5, t6, t7⟩, ⟨tf0, tf1, tf2, tf3, tf4, tf5, tf6, tf7⟩⟩ := T1
    simp only [Nat.zero_add] at t0 t1 t2 t3 t4 t5 t6 t7
    clear tf0 tf1 tf2 tf3 tf4 tf5 tf6 tf7
    go_wp2_with fail
    go_ret
    exact ⟨by first | (rw [HR.out]; done) | (rw [HR.out]; rfl), HB0.out⟩
  · rw [if_neg hd] at HR
    replace HR := Lib.hid HR
    go_enter Tryz.func8, Tryz.ntmps8
    go_upto_region 1 with fail
    refine under_name ((Bel.refl w).alloc _) fun W1 hcc hf hz hb => ?_
    have T1 : XFree W1 w.heap.size o ⟨vk, vn, vs, vt, vm⟩ bn A n c := by simp [XFree, ExAt, hcc, hf, hz, go_sem]
    clear hcc hf hz
    generalize w.heap.size = N at T1
    have HB0 := Lib.hid hb
    clear hb
    have L1 := Lib.hid T1
    obtain ⟨tz, ⟨t0, t1, t2, t3, t4, t5, t6, t7⟩, ⟨tf0, tf1, tf2, tf3, tf4, tf5, tf6, tf7⟩⟩ := T1
    simp only [Nat.zero_add] at t0 t1 t2 t3 t4 t5 t6 t7
    clear tf0 tf1 tf2 tf3 tf4 tf5 tf6 tf7
    go_wp2_with fail
    clear tz t0 t1 t2 t3 t4 t5 t6 t7 hl1'
    go_loopg [2, 7] (n + 1) (fun g lv iv wr => ∃ (q : Nat) (l : Int), iv = .int .i64 q ∧ lv = .int .i64 l ∧ q ≤ n ∧ Hid (n + 1 - q ≤ g) ∧ Hid (R = bgL (ks.drop q) D l) ∧ Hid (Bel W1 wr))
    case atStart => exact ⟨0, l1, rfl, rfl, Nat.zero_le _, Lib.hid (by omega), HR, Lib.hid (Bel.refl _)⟩
    case round =>
      obtain ⟨q, l, rfl, rfl, hq, hg, hR, hW⟩ := hrel
      obtain ⟨tz, ⟨t0, t1, t2, t3, t4, t5, t6, t7⟩, ⟨tf0, tf1, tf2, tf3, tf4, tf5, tf6, tf7⟩⟩ := L1.out.keep hW.out
      simp only [Nat.zero_add] at t0 t1 t2 t3 t4 t5 t6 t7
      clear tf0 tf1 tf2 tf3 tf4 tf5 tf6 tf7
      rcases Nat.lt_or_ge q n with hlt | hge
      · by_cases hl0 : 0 ≤ l
        · have hlti : (q : Int) < (n : Int) := by omega
          have l0 : (0 : Int) ≤ (q : Int) := by omega
          have wq : IntKind.i64.wrap ((q : Int) + 1) = ((q + 1 : Nat) : Int) := by rw [IntKind.wrap_i64]; omega
          obtain ⟨y, hy⟩ : ∃ y, ks[q]? = some y := ⟨ks[q]'(by have := Hn.out; omega), List.getElem?_eq_getElem _⟩
          obtain ⟨B, off, hAA, -, hBlt, A', c', hE, hLy⟩ := (HL.out.keep (HB0.out.trans hW.out)).get hy
          subst hAA
          obtain ⟨HC, hly⟩ := HI.out q y hy
          have hR2 := Lib.hid (show R = bgL (ks.drop (q + 1)) D (bgX y D l) from by rw [hR.out, List.drop_eq_getElem_cons (by have := Hn.out; omega), bgL, if_pos hl0, show ks[q] = y from by rw [List.getElem?_eq_some_iff] at hy; exact hy.2])
          obtain ⟨yo, ⟨yk, yn, ys, yt, ym⟩, ynm, yks⟩ := y
          have CK := Lib.hid (HC wr A' c' D l hly hLy)
          simp only [Ex.op, Ex.v, Ex.nm, Ex.ks] at hE CK
          obtain ⟨e0, e1, e2, e3, e4, e5, e6, e7⟩ := hE
          clear hy hLy hBlt HC hly
          go_wp2_with (go_at_call 8; (with_reducible refine Calls.mono CK.out ?_); rintro ee V6 ⟨rfl, hb6⟩; have hq6 := Lib.hid (hW.out.trans hb6); clear hb6)
          go_roundg (n + 1 - (q + 1))
          case measure => have := hg.out; omega
          case rel => exact ⟨q + 1, _, rfl, rfl, hlt, Lib.hid (Nat.le_refl _), hR2, hq6⟩
        · have hlti : (q : Int) < (n : Int) := by omega
          have hR2 := Lib.hid (show R = l from by rw [hR.out, List.drop_eq_getElem_cons (by have := Hn.out; omega), bgL, if_neg hl0])
          go_wp2_with fail
          go_ret
          exact ⟨by first | (rw [hR2.out]; done) | (rw [hR2.out]; rfl), HB0.out.trans hW.out⟩
      · obtain rfl : q = n := by omega
        have hR2 := Lib.hid (show R = l from by rw [hR.out, List.drop_of_length_le (by have := Hn.out; omega), bgL])
        go_wp2_with fail
        go_ret
        exact ⟨by first | (rw [hR2.out]; done) | (rw [hR2.out]; rfl), HB0.out.trans hW.out⟩
theorem big_any : ∀ x : Ex, BgC x := Ex.ind fun op v nm ks IH => big_step (.mk op v nm ks) IH
def HasC (x : Ex) : Prop := ∀ (w : World) (A : Option Addr) (c : Nat) (s : ByteArray), lnX x → Lie (fun _ => True) w A x.ks →
  Calls Tryz.prog 17 #[exV x.op x.v (bytesOf x.nm) A x.ks.length c, .string s] w fun r w' => r = .returned (.bool (inl (nmsX x) s)) ∧ Bel w w'
theorem nms_mem : ∀ (l : List Ex) (s : ByteArray), s ∈ nmsL l ↔ ∃ (q : Nat) (y : Ex), l[q]? = some y ∧ s ∈ nmsX y
  | [], s => by simp [nmsL]
  | x :: l, s => by
    rw [nmsL, List.mem_append, nms_mem l s]
    constructor
    · rintro (h | ⟨q, y, h1, h2⟩)
      · exact ⟨0, x, rfl, h⟩
      · exact ⟨q + 1, y, by simpa using h1, h2⟩
    · rintro ⟨q, y, h1, h2⟩
      cases q with
      | zero =>
        obtain rfl : x = y := by simpa using h1
        exact .inl h2
      | succ q => exact .inr ⟨q, y, by simpa using h1, h2⟩
set_option maxRecDepth 100000 in
set_option maxHeartbeats 8000000 in
theorem has_step (x : Ex) (IH : ∀ y ∈ x.ks, HasC y) : HasC x := by
  intro w A c s hln hL
  obtain ⟨o, ⟨vk, vn, vs, vt, vm⟩, nm, ks⟩ := x
  obtain ⟨hl1, hl2⟩ := hln
  simp only [Ex.op, Ex.v, Ex.nm, Ex.ks] at hL ⊢
  have HI := Lib.hid fun (q : Nat) (y : Ex) (hy : ks[q]? = some y) => And.intro (IH y (List.mem_of_getElem? hy)) (lnL_mem hl2 (List.mem_of_getElem? hy))
  have HL := Lib.hid hL
  obtain ⟨bn, hbn⟩ : ∃ b, b = bytesOf nm := ⟨_, rfl⟩
  obtain ⟨n, hn⟩ : ∃ n, n = ks.length := ⟨_, rfl⟩
  rw [← hn] at hl1
  rw [← hn, ← hbn]
  have Hn := Lib.hid hn
  have hni : (n : Int) ≤ 9223372036854775807 := by omega
  have HT : nmsX (.mk o ⟨vk, vn, vs, vt, vm⟩ nm ks) = (if o = 2 then [bn] else []) ++ nmsL ks := by rw [nmsX, hbn]
  clear hl2 IH hL hn hbn
  by_cases h2 : o = 2
  · subst h2
    rw [if_pos rfl] at HT
    by_cases hs : bn = s
    · subst hs
      have hF := Lib.hid (show bn ∈ nmsX (.mk 2 ⟨vk, vn, vs, vt, vm⟩ nm ks) from by rw [HT]; simp)
      clear HT
      go_enter Tryz.func17, Tryz.ntmps17
      go_upto_region 1 with fail
      refine under_name ((Bel.refl w).alloc _) fun W1 hcc hf hz hb => ?_
      have T1 : XFree W1 w.heap.size 2 ⟨vk, vn, vs, vt, vm⟩ bn A n c := by simp [XFree, ExAt, hcc, hf, hz, go_sem]
      clear hcc hf hz
      generalize w.heap.size = N at T1
      have HB0 := Lib.hid hb
      clear hb
      have L1 := Lib.hid T1
      obtain ⟨tz, ⟨t0, t1, t2, t3, t4, t5, t6, t7⟩, ⟨tf0, tf1, tf2, tf3, tf4, tf5, tf6, tf7⟩⟩ := T1
      simp only [Nat.zero_add] at t0 t1 t2 t3 t4 t5 t6 t7
      clear tf0 tf1 tf2 tf3 tf4 tf5 tf6 tf7
      go_wp2_with fail
      go_ret
      exact ⟨by first | (rw [(inl_iff _ _).2 hF.out]; done) | (rw [(inl_iff _ _).2 hF.out]; rfl), HB0.out⟩
    · have hs2 : ¬ bn.toList = s.toList := fun e => hs ((toList_inj _ _).1 e)
      have hs3 : (bn.toList == s.toList) = false := by rw [beq_eq_false_iff_ne]; exact hs2
      have HT2 := Lib.hid (show s ∈ nmsX (.mk 2 ⟨vk, vn, vs, vt, vm⟩ nm ks) ↔ ∃ (q : Nat) (y : Ex), ks[q]? = some y ∧ s ∈ nmsX y from by
        rw [HT, List.mem_append, nms_mem, List.mem_singleton]
        exact ⟨fun h => h.resolve_left (fun e => hs e.symm), .inr⟩)
      clear HT
      go_enter Tryz.func17, Tryz.ntmps17
      go_upto_region 1 with fail
      refine under_name ((Bel.refl w).alloc _) fun W1 hcc hf hz hb => ?_
      have T1 : XFree W1 w.heap.size 2 ⟨vk, vn, vs, vt, vm⟩ bn A n c := by simp [XFree, ExAt, hcc, hf, hz, go_sem]
      clear hcc hf hz
      generalize w.heap.size = N at T1
      have HB0 := Lib.hid hb
      clear hb
      have L1 := Lib.hid T1
      obtain ⟨tz, ⟨t0, t1, t2, t3, t4, t5, t6, t7⟩, ⟨tf0, tf1, tf2, tf3, tf4, tf5, tf6, tf7⟩⟩ := T1
      simp only [Nat.zero_add] at t0 t1 t2 t3 t4 t5 t6 t7
      clear tf0 tf1 tf2 tf3 tf4 tf5 tf6 tf7
      go_wp2_with fail
      clear tz t0 t1 t2 t3 t4 t5 t6 t7
      go_loopg [5] (n + 1) (fun g iv wr => ∃ (q : Nat), iv = .int .i64 q ∧ q ≤ n ∧ Hid (n + 1 - q ≤ g) ∧ Hid (∀ (i : Nat) (y : Ex), i < q → ks[i]? = some y → s ∉ nmsX y) ∧ Hid (Bel W1 wr))
      case atStart => exact ⟨0, rfl, Nat.zero_le _, Lib.hid (by omega), Lib.hid (fun i y h => absurd h (Nat.not_lt_zero _)), Lib.hid (Bel.refl _)⟩
      case round =>
        obtain ⟨q, rfl, hq, hg, hA, hW⟩ := hrel
        obtain ⟨tz, ⟨t0, t1, t2, t3, t4, t5, t6, t7⟩, ⟨tf0, tf1, tf2, tf3, tf4, tf5, tf6, tf7⟩⟩ := L1.out.keep hW.out
        simp only [Nat.zero_add] at t0 t1 t2 t3 t4 t5 t6 t7
        clear tf0 tf1 tf2 tf3 tf4 tf5 tf6 tf7
        rcases Nat.lt_or_ge q n with hlt | hge
        · have hlti : (q : Int) < (n : Int) := by omega
          have l0 : (0 : Int) ≤ (q : Int) := by omega
          have wq : IntKind.i64.wrap ((q : Int) + 1) = ((q + 1 : Nat) : Int) := by rw [IntKind.wrap_i64]; omega
          obtain ⟨y, hy⟩ : ∃ y, ks[q]? = some y := ⟨ks[q]'(by have := Hn.out; omega), List.getElem?_eq_getElem _⟩
          obtain ⟨B, off, hAA, -, hBlt, A', c', hE, hLy⟩ := (HL.out.keep (HB0.out.trans hW.out)).get hy
          subst hAA
          obtain ⟨HC, hly⟩ := HI.out q y hy
          cases hs : inl (nmsX y) s with
          | true =>
            have hF := Lib.hid (HT2.out.2 ⟨q, y, hy, (inl_iff _ _).1 hs⟩)
            have CK := HC wr A' c' s hly hLy
            rw [hs] at CK
            replace CK := Lib.hid CK
            clear hs
            obtain ⟨yo, ⟨yk, yn, ys, yt, ym⟩, ynm, yks⟩ := y
            simp only [Ex.op, Ex.v, Ex.nm, Ex.ks] at hE CK
            obtain ⟨e0, e1, e2, e3, e4, e5, e6, e7⟩ := hE
            clear hy hLy hBlt HC hly
            go_wp2_with (go_at_call 17; (with_reducible refine Calls.mono CK.out ?_); rintro ee V6 ⟨rfl, hb6⟩; have hq6 := Lib.hid (hW.out.trans hb6); clear hb6)
            go_ret
            exact ⟨by first | (rw [(inl_iff _ _).2 hF.out]; done) | (rw [(inl_iff _ _).2 hF.out]; rfl), HB0.out.trans hq6.out⟩
          | false =>
            have hno := Lib.hid ((inl_false _ _).1 hs)
            have CK := HC wr A' c' s hly hLy
            rw [hs] at CK
            replace CK := Lib.hid CK
            have HY := Lib.hid hy
            clear hs
            have KY := Lib.hid (show ∀ z, ks[q]? = some z → s ∉ nmsX z from fun z hz => by rw [hy] at hz; obtain rfl := Option.some.inj hz; exact hno.out)
            obtain ⟨yo, ⟨yk, yn, ys, yt, ym⟩, ynm, yks⟩ := y
            simp only [Ex.op, Ex.v, Ex.nm, Ex.ks] at hE CK
            obtain ⟨e0, e1, e2, e3, e4, e5, e6, e7⟩ := hE
            clear hy hLy hBlt HC hly
            go_wp2_with (go_at_call 17; (with_reducible refine Calls.mono CK.out ?_); rintro ee V6 ⟨rfl, hb6⟩; have hq6 := Lib.hid (hW.out.trans hb6); clear hb6)
            go_roundg (n + 1 - (q + 1))
            case measure => have := hg.out; omega
            case rel =>
              refine ⟨q + 1, rfl, hlt, Lib.hid (Nat.le_refl _), Lib.hid fun i z hi hz => ?_, hq6⟩
              rcases Nat.lt_or_ge i q with h | h
              · exact hA.out i z h hz
              · obtain rfl : i = q := by omega
                exact KY.out z hz
        · obtain rfl : q = n := by omega
          have hF := Lib.hid (show s ∉ nmsX (.mk 2 ⟨vk, vn, vs, vt, vm⟩ nm ks) from fun h => by
            obtain ⟨q, y, h1, h2⟩ := HT2.out.1 h
            exact hA.out q y (by have := (List.getElem?_eq_some_iff.1 h1).1; have := Hn.out; omega) h1 h2)
          go_wp2_with fail
          go_ret
          exact ⟨by first | (rw [(inl_false _ _).2 hF.out]; done) | (rw [(inl_false _ _).2 hF.out]; rfl), HB0.out.trans hW.out⟩
  · rw [if_neg h2, List.nil_append] at HT
    have HT2 := Lib.hid (show s ∈ nmsX (.mk o ⟨vk, vn, vs, vt, vm⟩ nm ks) ↔ ∃ (q : Nat) (y : Ex), ks[q]? = some y ∧ s ∈ nmsX y from by rw [HT, nms_mem])
    clear HT
    go_enter Tryz.func17, Tryz.ntmps17
    go_upto_region 1 with fail
    refine under_name ((Bel.refl w).alloc _) fun W1 hcc hf hz hb => ?_
    have T1 : XFree W1 w.heap.size o ⟨vk, vn, vs, vt, vm⟩ bn A n c := by simp [XFree, ExAt, hcc, hf, hz, go_sem]
    clear hcc hf hz
    generalize w.heap.size = N at T1
    have HB0 := Lib.hid hb
    clear hb
    have L1 := Lib.hid T1
    obtain ⟨tz, ⟨t0, t1, t2, t3, t4, t5, t6, t7⟩, ⟨tf0, tf1, tf2, tf3, tf4, tf5, tf6, tf7⟩⟩ := T1
    simp only [Nat.zero_add] at t0 t1 t2 t3 t4 t5 t6 t7
    clear tf0 tf1 tf2 tf3 tf4 tf5 tf6 tf7
    go_wp2_with fail
    clear tz t0 t1 t2 t3 t4 t5 t6 t7
    go_loopg [5] (n + 1) (fun g iv wr => ∃ (q : Nat), iv = .int .i64 q ∧ q ≤ n ∧ Hid (n + 1 - q ≤ g) ∧ Hid (∀ (i : Nat) (y : Ex), i < q → ks[i]? = some y → s ∉ nmsX y) ∧ Hid (Bel W1 wr))
    case atStart => exact ⟨0, rfl, Nat.zero_le _, Lib.hid (by omega), Lib.hid (fun i y h => absurd h (Nat.not_lt_zero _)), Lib.hid (Bel.refl _)⟩
    case round =>
      obtain ⟨q, rfl, hq, hg, hA, hW⟩ := hrel
      obtain ⟨tz, ⟨t0, t1, t2, t3, t4, t5, t6, t7⟩, ⟨tf0, tf1, tf2, tf3, tf4, tf5, tf6, tf7⟩⟩ := L1.out.keep hW.out
      simp only [Nat.zero_add] at t0 t1 t2 t3 t4 t5 t6 t7
      clear tf0 tf1 tf2 tf3 tf4 tf5 tf6 tf7
      rcases Nat.lt_or_ge q n with hlt | hge
      · have hlti : (q : Int) < (n : Int) := by omega
        have l0 : (0 : Int) ≤ (q : Int) := by omega
        have wq : IntKind.i64.wrap ((q : Int) + 1) = ((q + 1 : Nat) : Int) := by rw [IntKind.wrap_i64]; omega
        obtain ⟨y, hy⟩ : ∃ y, ks[q]? = some y := ⟨ks[q]'(by have := Hn.out; omega), List.getElem?_eq_getElem _⟩
        obtain ⟨B, off, hAA, -, hBlt, A', c', hE, hLy⟩ := (HL.out.keep (HB0.out.trans hW.out)).get hy
        subst hAA
        obtain ⟨HC, hly⟩ := HI.out q y hy
        cases hs : inl (nmsX y) s with
        | true =>
          have hF := Lib.hid (HT2.out.2 ⟨q, y, hy, (inl_iff _ _).1 hs⟩)
          have CK := HC wr A' c' s hly hLy
          rw [hs] at CK
          replace CK := Lib.hid CK
          clear hs
          obtain ⟨yo, ⟨yk, yn, ys, yt, ym⟩, ynm, yks⟩ := y
          simp only [Ex.op, Ex.v, Ex.nm, Ex.ks] at hE CK
          obtain ⟨e0, e1, e2, e3, e4, e5, e6, e7⟩ := hE
          clear hy hLy hBlt HC hly
          go_wp2_with (go_at_call 17; (with_reducible refine Calls.mono CK.out ?_); rintro ee V6 ⟨rfl, hb6⟩; have hq6 := Lib.hid (hW.out.trans hb6); clear hb6)
          go_ret
          exact ⟨by first | (rw [(inl_iff _ _).2 hF.out]; done) | (rw [(inl_iff _ _).2 hF.out]; rfl), HB0.out.trans hq6.out⟩
        | false =>
          have hno := Lib.hid ((inl_false _ _).1 hs)
          have CK := HC wr A' c' s hly hLy
          rw [hs] at CK
          replace CK := Lib.hid CK
          have HY := Lib.hid hy
          clear hs
          have KY := Lib.hid (show ∀ z, ks[q]? = some z → s ∉ nmsX z from fun z hz => by rw [hy] at hz; obtain rfl := Option.some.inj hz; exact hno.out)
          obtain ⟨yo, ⟨yk, yn, ys, yt, ym⟩, ynm, yks⟩ := y
          simp only [Ex.op, Ex.v, Ex.nm, Ex.ks] at hE CK
          obtain ⟨e0, e1, e2, e3, e4, e5, e6, e7⟩ := hE
          clear hy hLy hBlt HC hly
          go_wp2_with (go_at_call 17; (with_reducible refine Calls.mono CK.out ?_); rintro ee V6 ⟨rfl, hb6⟩; have hq6 := Lib.hid (hW.out.trans hb6); clear hb6)
          go_roundg (n + 1 - (q + 1))
          case measure => have := hg.out; omega
          case rel =>
            refine ⟨q + 1, rfl, hlt, Lib.hid (Nat.le_refl _), Lib.hid fun i z hi hz => ?_, hq6⟩
            rcases Nat.lt_or_ge i q with h | h
            · exact hA.out i z h hz
            · obtain rfl : i = q := by omega
              exact KY.out z hz
      · obtain rfl : q = n := by omega
        have hF := Lib.hid (show s ∉ nmsX (.mk o ⟨vk, vn, vs, vt, vm⟩ nm ks) from fun h => by
          obtain ⟨q, y, h1, h2⟩ := HT2.out.1 h
          exact hA.out q y (by have := (List.getElem?_eq_some_iff.1 h1).1; have := Hn.out; omega) h1 h2)
        go_wp2_with fail
        go_ret
        exact ⟨by first | (rw [(inl_false _ _).2 hF.out]; done) | (rw [(inl_false _ _).2 hF.out]; rfl), HB0.out.trans hW.out⟩
theorem has_any : ∀ x : Ex, HasC x := Ex.ind fun op v nm ks IH => has_step (.mk op v nm ks) IH
end Go.Proofs.YthfkbonbgdioaaaGreatDoor
