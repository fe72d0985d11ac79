import Derived.Test.YtobdokeklcdpoaaDoorMlf
namespace Go.Proofs.YtobdokeklcdpoaaDoor
set_option linter.unusedSimpArgs false
set_option linter.unusedVariables false
open Go.RowKit

/-! Marks that are written are read as they were. -/
set_option maxRecDepth 100000 in
set_option maxHeartbeats 16000000 in
theorem law_Back (ms : List Mk) (A : Option Addr) (c : Nat) (w : World) (hM : Mks w A ms) (hs : ∀ m ∈ ms, Sml m) (hl : ms.length ≤ 1048576) (hm : Mx w) :
    Calls Tryd.prog 4 #[.slice A ms.length c] w fun r w' => r = .returned (.bool true) ∧ Bel w w' := by
  have CA := Lib.hid fun W (hb : Bel w W) => mawake_any W (hm.keep hb)
  have CM := Lib.hid fun W (hb : Bel w W) z => marks_any z W (hm.keep hb)
  have CT := Lib.hid fun W fs B d (hF : Few W w.heap.size (.slice B fs.length d) fs) (h1 : ∀ m ∈ fs, Sml m) (h2 : fs.length ≤ 65536) => text_any fs B d W hF.reads h1 (by omega)
  have KM := Lib.hid hM
  have HS := Lib.hid hs
  have li : (ms.length : Int) ≤ 1048576 := by omega
  clear hM hs hm
  go_enter Tryd.func4, Tryd.ntmps4
  go_wp2
  go_loopg [3, 4] (min ms.length 100) (fun g v iv wr => ∃ (i : Nat) (fs : List Mk), iv = .int .i64 i ∧ i ≤ ms.length ∧ i ≤ 100 ∧ Hid (g = min ms.length 100 - i) ∧ Hid (Few wr w.heap.size v fs) ∧ Hid (altM fs ∧ (∀ m ∈ fs, Sml m)) ∧ Hid (fs.length ≤ i) ∧ Hid (Bel w wr))
  case atStart => exact ⟨0, [], rfl, Nat.zero_le _, Nat.zero_le _, Lib.hid rfl, Lib.hid (Few.nil _ _), Lib.hid ⟨trivial, fun m h => by cases h⟩, Lib.hid (Nat.le_refl _), Lib.hid (Bel.refl _)⟩
  case round =>
    obtain ⟨i, fs, rfl, hi, hi1, hg, hF, hA, hfl, hb⟩ := hrel
    obtain ⟨B, d, rfl⟩ := hF.out.val
    have ii : (i : Int) ≤ 100 := by omega
    have fi : (fs.length : Int) ≤ 100 := by have := hfl.out; omega
    by_cases hlt : i < ms.length ∧ i < 100
    · have i1 : (i : Int) < ms.length := by omega
      have i2 : (i : Int) < 100 := by omega
      obtain ⟨m, hmi⟩ : ∃ m, ms[i]? = some m := ⟨_, List.getElem?_eq_getElem hlt.1⟩
      have hsm := Lib.hid (HS.out m (List.mem_of_getElem? hmi))
      obtain ⟨b3, o3, rfl, hlt3, hat⟩ := KM.out (by omega)
      obtain ⟨A1, c1, k0, k1, k2, k3, k4, k5⟩ := hat i m hmi
      have hA1 : ∀ a, A1 = some a → 0 < m.attrs.length → a.block < w.heap.size := by
        intro a ha h0
        obtain ⟨b4, o4, e4, hlt4, _⟩ := k5 (by rw [atsCells_len]; omega)
        rw [ha] at e4
        cases e4
        exact hlt4
      replace k0 := (hb.out.cells _ _ hlt3).trans k0
      replace k1 := (hb.out.cells _ _ hlt3).trans k1
      replace k2 := (hb.out.cells _ _ hlt3).trans k2
      replace k3 := (hb.out.cells _ _ hlt3).trans k3
      replace k4 := (hb.out.cells _ _ hlt3).trans k4
      have K5 := Lib.hid (k5.keep hb.out)
      have z1 := Nat.lt_of_lt_of_le hlt3 hb.out.size
      have HA1 := Lib.hid hA1
      obtain ⟨kd, ps, nm, al, tx⟩ := m
      simp only at k0 k1 k2 k3 k4 K5 HA1
      have AP := Lib.hid fun W (hW : Bel wr W) ty => app_few' (hF.out.keep hW) (Nat.le_trans hb.out.size hW.size) (by have := hfl.out; omega) kd ps nm tx al A1 c1 (K5.out.keep hW) HA1.out ty
      have hi0 : (0 : Int) ≤ (i : Int) := by omega
      clear hat hmi k5 hA1 hlt
      have CONT : ∀ W, Bel wr W → (∃ (i' : Nat) (fs' : List Mk), (Value.int .i64 ((i : Int) + 1)) = .int .i64 i' ∧ i' ≤ ms.length ∧ i' ≤ 100 ∧ Hid (min ms.length 100 - (i + 1) = min ms.length 100 - i') ∧ Hid (Few W w.heap.size (.slice B fs.length d) fs') ∧ Hid (altM fs' ∧ (∀ m ∈ fs', Sml m)) ∧ Hid (fs'.length ≤ i') ∧ Hid (Bel w W)) := fun W hW => ⟨i + 1, fs, rfl, by omega, by omega, Lib.hid rfl, Lib.hid (hF.out.keep hW), hA, Lib.hid (by have := hfl.out; omega), Lib.hid (hb.out.trans hW)⟩
      have MORE : (kd = 3 → tx ≠ [] ∧ ∀ n, fs.getLast? = some n → n.kind ≠ 3) → ∀ W v, Bel w W → Few W w.heap.size v (fs ++ [⟨kd, ps, nm, al, tx⟩]) → (∃ (i' : Nat) (fs' : List Mk), (Value.int .i64 ((i : Int) + 1)) = .int .i64 i' ∧ i' ≤ ms.length ∧ i' ≤ 100 ∧ Hid (min ms.length 100 - (i + 1) = min ms.length 100 - i') ∧ Hid (Few W w.heap.size v fs') ∧ Hid (altM fs' ∧ (∀ m ∈ fs', Sml m)) ∧ Hid (fs'.length ≤ i') ∧ Hid (Bel w W)) := fun hc W v hW hF2 => ⟨i + 1, _, rfl, by omega, by omega, Lib.hid rfl, Lib.hid hF2, Lib.hid ⟨altM_snoc fs _ hA.out.1 hc, fun x hx => by
        rcases List.mem_append.1 hx with hx | hx
        · exact hA.out.2 x hx
        · rw [List.mem_singleton] at hx
          subst hx
          exact hsm.out⟩, Lib.hid (by rw [List.length_append]; have := hfl.out; simp only [List.length_cons, List.length_nil]; omega), Lib.hid hW⟩
      replace CONT := Lib.hid CONT
      replace MORE := Lib.hid MORE
      by_cases hk3 : kd = 3
      · subst hk3
        by_cases htx : tx = []
        · have he := empty_of htx
          clear htx
          go_wp2
          go_roundg (min ms.length 100 - (i + 1))
          case measure => have := hg.out; omega
          case rel => exact CONT.out _ ((Bel.refl _).alloc _)
        · have he := empty_no htx
          have HT := Lib.hid htx
          by_cases hf0 : fs = []
          · subst hf0
            have M2 := Lib.hid (MORE.out fun _ => ⟨HT.out, fun n hn => by cases hn⟩)
            clear htx MORE CONT
            go_upto_region 8 with fail
            have hbx : BoxM (wr.alloc (.cells #[.int .i64 3, .int .i64 ps, .string (bytesOf nm), .slice A1 al.length c1, .string (bytesOf tx)] 31)) wr.heap.size ⟨3, ps, nm, al, tx⟩ A1 c1 := heap_alloc_new wr _
            have hW2 : Bel wr (wr.alloc (.cells #[.int .i64 3, .int .i64 ps, .string (bytesOf nm), .slice A1 al.length c1, .string (bytesOf tx)] 31)) := (Bel.refl _).alloc _
            generalize (wr.alloc (.cells #[.int .i64 3, .int .i64 ps, .string (bytesOf nm), .slice A1 al.length c1, .string (bytesOf tx)] 31)) = W2 at hbx hW2 ⊢
            generalize wr.heap.size = N at hbx ⊢
            obtain ⟨n0, n2, n3, n4⟩ := BoxM.cells hbx
            have n1 : W2.cell? ⟨N, 1, none⟩ = some (.int .i64 ps) := by rw [Lib.cell_of_heap hbx]; rfl
            simp only at n0 n2 n3 n4
            clear k0 k1 k2 k3 k4 hbx
            go_wp2_with (at_builtin; refine wpList_app rfl (.tmp 49) (.tmp 51) _ rfl (AP.out _ hW2 _) ?_; rintro v' w4 ⟨M4, B4⟩; obtain ⟨A4, k4', rfl⟩ := M4.val; have M4 := Lib.hid M4; have B4 := Lib.hid B4)
            go_roundg (min ms.length 100 - (i + 1))
            case measure => have := hg.out; omega
            case rel => exact M2.out _ _ (Below.trans (hb.out.trans hW2) B4.out) (by have h := M4.out; rw [List.length_append] at h; exact h)
          · have hfp := List.length_pos_iff.2 hf0
            have hfi : (0 : Int) < fs.length := by omega
            obtain ⟨n, hn⟩ : ∃ n, fs[fs.length - 1]? = some n := ⟨_, List.getElem?_eq_getElem (by omega)⟩
            have HL := Lib.hid (show fs.getLast? = some n from by rw [List.getLast?_eq_getElem?]; exact hn)
            obtain ⟨b5, o5, rfl, hlt5, hat5⟩ := hF.out.reads hfp
            obtain ⟨A5, c5, l0, _, _, _, _, _⟩ := hat5 _ n hn
            have ef : ((fs.length - 1 : Nat) : Int) = (fs.length : Int) - 1 := by omega
            by_cases hn3 : n.kind = 3
            · rw [hn3] at l0
              clear htx hat5 hn MORE hf0
              go_wp2
              go_roundg (min ms.length 100 - (i + 1))
              case measure => have := hg.out; omega
              case rel => exact CONT.out _ ((Bel.refl _).alloc _)
            · have M2 := Lib.hid (MORE.out fun _ => ⟨HT.out, fun n' hn' => by rw [HL.out] at hn'; cases hn'; exact hn3⟩)
              have hn3' : (n.kind == 3) = false := by simpa using hn3
              clear htx hat5 hn MORE CONT hf0
              go_upto_region 8 with fail
              have hbx : BoxM (wr.alloc (.cells #[.int .i64 3, .int .i64 ps, .string (bytesOf nm), .slice A1 al.length c1, .string (bytesOf tx)] 31)) wr.heap.size ⟨3, ps, nm, al, tx⟩ A1 c1 := heap_alloc_new wr _
              have hW2 : Bel wr (wr.alloc (.cells #[.int .i64 3, .int .i64 ps, .string (bytesOf nm), .slice A1 al.length c1, .string (bytesOf tx)] 31)) := (Bel.refl _).alloc _
              generalize (wr.alloc (.cells #[.int .i64 3, .int .i64 ps, .string (bytesOf nm), .slice A1 al.length c1, .string (bytesOf tx)] 31)) = W2 at hbx hW2 ⊢
              generalize wr.heap.size = N at hbx ⊢
              obtain ⟨n0, n2, n3, n4⟩ := BoxM.cells hbx
              have n1 : W2.cell? ⟨N, 1, none⟩ = some (.int .i64 ps) := by rw [Lib.cell_of_heap hbx]; rfl
              simp only at n0 n2 n3 n4
              clear k0 k1 k2 k3 k4 hbx
              go_wp2_with (at_builtin; refine wpList_app rfl (.tmp 49) (.tmp 51) _ rfl (AP.out _ hW2 _) ?_; rintro v' w4 ⟨M4, B4⟩; obtain ⟨A4, k4', rfl⟩ := M4.val; have M4 := Lib.hid M4; have B4 := Lib.hid B4)
              go_roundg (min ms.length 100 - (i + 1))
              case measure => have := hg.out; omega
              case rel => exact M2.out _ _ (Below.trans (hb.out.trans hW2) B4.out) (by have h := M4.out; rw [List.length_append] at h; exact h)
      · have M2 := Lib.hid (MORE.out fun h => absurd h hk3)
        have hk3' : (kd == 3) = false := by simpa using hk3
        clear MORE CONT
        go_upto_region 8 with fail
        have hbx : BoxM (wr.alloc (.cells #[.int .i64 kd, .int .i64 ps, .string (bytesOf nm), .slice A1 al.length c1, .string (bytesOf tx)] 31)) wr.heap.size ⟨kd, ps, nm, al, tx⟩ A1 c1 := heap_alloc_new wr _
        have hW2 : Bel wr (wr.alloc (.cells #[.int .i64 kd, .int .i64 ps, .string (bytesOf nm), .slice A1 al.length c1, .string (bytesOf tx)] 31)) := (Bel.refl _).alloc _
        generalize (wr.alloc (.cells #[.int .i64 kd, .int .i64 ps, .string (bytesOf nm), .slice A1 al.length c1, .string (bytesOf tx)] 31)) = W2 at hbx hW2 ⊢
        generalize wr.heap.size = N at hbx ⊢
        obtain ⟨n0, n2, n3, n4⟩ := BoxM.cells hbx
        have n1 : W2.cell? ⟨N, 1, none⟩ = some (.int .i64 ps) := by rw [Lib.cell_of_heap hbx]; rfl
        simp only at n0 n2 n3 n4
        clear k0 k1 k2 k3 k4 hbx
        go_wp2_with (at_builtin; refine wpList_app rfl (.tmp 49) (.tmp 51) _ rfl (AP.out _ hW2 _) ?_; rintro v' w4 ⟨M4, B4⟩; obtain ⟨A4, k4', rfl⟩ := M4.val; have M4 := Lib.hid M4; have B4 := Lib.hid B4)
        go_roundg (min ms.length 100 - (i + 1))
        case measure => have := hg.out; omega
        case rel => exact M2.out _ _ (Below.trans (hb.out.trans hW2) B4.out) (by have h := M4.out; rw [List.length_append] at h; exact h)
    · have T := Lib.hid (CT.out wr fs B d hF.out hA.out.2 (by have := hfl.out; omega))
      have BK := Lib.hid (back_marks fs)
      unfold textV at T
      generalize textS fs = te at T BK
      obtain ⟨t, e⟩ := te
      simp only at T BK
      by_cases he : e = 0
      · subst he
        obtain ⟨ns, hn1, hn2⟩ := BK.out rfl hA.out.1 (bytesOf t) (by simp [bytesOf])
        have hlens := marksS_lens (bytesOf t)
        have CMK := Lib.hid (show ∀ W, Bel w W → Calls Tryd.prog 10 #[.string (bytesOf t)] W fun r w' => Bel W w' ∧ ∃ A c, r = .returned (.tuple #[.slice A ns.length c, .int .i64 0, .int .i64 0]) ∧ Mks w' A ns from fun W hW => by
          refine (CM.out W hW (bytesOf t)).mono fun r w' h => ?_
          unfold MarksOut at h
          rw [hn1] at h
          obtain ⟨h1, A', c', h2, h3, _⟩ := h
          exact ⟨h1, A', c', h2, h3⟩)
        rw [hn1] at hlens
        have CS := Lib.hid (show ∀ W A' c', Bel wr W → Mks W A' ns → Calls Tryd.prog 11 #[.slice A' ns.length c', .slice B fs.length d] W fun r w' => r = .returned (.bool true) ∧ Bel W w' from fun W A' c' hW h => by
          refine same_yes ns fs A' B c' d W h (hF.out.reads.keep hW) hn2 (by have := hlens.1; simp only at this; omega) (fun m hm => by have := hlens.2 m hm; omega))
        have e0 : ((0 : Nat) : Int) = 0 := rfl
        rw [e0] at T
        clear BK hn1 hn2 hlens CM CT
        rcases (show ¬ (i < ms.length) ∨ (i < ms.length ∧ ¬ i < 100) by omega) with hx | hx
        all_goals
          first | (have i1 : ¬ (i : Int) < ms.length := (by omega)) | (have i1 : (i : Int) < ms.length := (by omega); have i3 : ¬ (i : Int) < 100 := (by omega))
          clear hlt hx
          go_wp2_with (first
            | (go_at_call 11; refine (CS.out _ _ _ ((hb1.trans hb2).trans hb3) hk3).mono ?_; rintro r W4 ⟨rfl, hb4⟩)
            | (go_at_call 10; refine (CMK.out _ (hb.out.trans (hb1.trans hb2))).mono ?_; rintro r W3 ⟨hb3, A', c', rfl, hk3⟩)
            | (go_at_call 9; refine (CA.out _ (hb.out.trans hb1)).mono ?_; rintro r W2 ⟨rfl, hb2⟩)
            | (go_at_call 7; refine T.out.mono ?_; rintro r W1 ⟨rfl, hb1⟩))
          go_ret
          exact ⟨rfl, hb.out.trans (((hb1.trans hb2).trans hb3).trans hb4)⟩
      · have he' : ((e : Nat) : Int) ≠ 0 := by omega
        have he2 : (((e : Nat) : Int) == 0) = false := by simpa using he'
        clear BK CM CT he
        rcases (show ¬ (i < ms.length) ∨ (i < ms.length ∧ ¬ i < 100) by omega) with hx | hx
        all_goals
          first | (have i1 : ¬ (i : Int) < ms.length := (by omega)) | (have i1 : (i : Int) < ms.length := (by omega); have i3 : ¬ (i : Int) < 100 := (by omega))
          clear hlt hx
          go_wp2_with (first
            | (go_at_call 9; refine (CA.out _ (hb.out.trans (hb1.trans hb2))).mono ?_; rintro r W3 ⟨rfl, hb3⟩)
            | (go_at_call 9; refine (CA.out _ (hb.out.trans hb1)).mono ?_; rintro r W2 ⟨rfl, hb2⟩)
            | (go_at_call 7; refine T.out.mono ?_; rintro r W1 ⟨rfl, hb1⟩))
          go_ret
          exact ⟨rfl, hb.out.trans ((hb1.trans hb2).trans hb3)⟩
end Go.Proofs.YtobdokeklcdpoaaDoor
