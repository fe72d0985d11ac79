import Derived.Test.YtabplogknipjiaaDoorDyi
namespace Go.Proofs.YtabplogknipjiaaDoor
set_option linter.unusedSimpArgs false
set_option linter.unusedVariables false
open Go.RowKit

def badV : Value := .tuple #[.int .i64 0, .int .i64 5]
def parseL (a b c d f g i j : UInt8) : Value :=
  if dOk [a, b, c, d] = true ∧ dOk [f, g] = true ∧ dOk [i, j] = true then dayV (numL [a, b, c, d]) (numL [f, g]) (numL [i, j]) else badV
def parseV (s : ByteArray) : Value :=
  match s.data.toList with
  | [a, b, c, d, e, f, g, h, i, j] => if e = 45 ∧ h = 45 then parseL a b c d f g i j else badV
  | _ => badV
theorem ten (s : ByteArray) (h : s.size = 10) : ∃ a b c d e f g h i j, s = ⟨#[a, b, c, d, e, f, g, h, i, j]⟩ := by
  obtain ⟨⟨l⟩⟩ := s
  have hl : l.length = 10 := h
  match l, hl with
  | [a, b, c, d, e, f, g, h, i, j], _ => exact ⟨a, b, c, d, e, f, g, h, i, j, rfl⟩
theorem parseV_no (s : ByteArray) (h : ¬ s.size = 10) : parseV s = badV := by
  obtain ⟨⟨l⟩⟩ := s
  unfold parseV
  split
  · rename_i hl; simp only at hl; subst hl; exact absurd rfl h
  · rfl
theorem u8_ne {e : UInt8} (h : ¬ e = 45) : ((e.toNat : Int) != 45) = true := by
  simp only [bne_iff_ne, ne_eq]
  exact fun h' => h (UInt8.toNat_inj.mp (by have : e.toNat = 45 := by omega
                                            rw [this]; rfl))
set_option maxHeartbeats 4000000 in
theorem parse_any (s : ByteArray) (w : World) : Calls Tryd.prog 15 #[.string s] w fun e w' => e = .returned (parseV s) ∧ Bel w w' := by
  by_cases hs : s.size = 10
  · obtain ⟨a, b, c, d, e, f, g, h, i, j, hs'⟩ := ten s hs
    have i4 : s[4]'(by omega) = e := by subst hs'; rfl
    have i7 : s[7]'(by omega) = h := by subst hs'; rfl
    have hnl : ¬ s.size < 4 := by omega
    by_cases he : e = 45
    · subst he
      have c4 : ((s[4]'(by omega)).toNat : Int) = 45 := by rw [i4]; rfl
      by_cases hh : h = 45
      · subst hh
        have c7 : ((s[7]'(by omega)).toNat : Int) = 45 := by rw [i7]; rfl
        rw [show parseV s = parseL a b c d f g i j by rw [hs']; simp [parseV]]
        have x1 : s.extract 0 4 = ⟨#[a, b, c, d]⟩ := by rw [hs']; exact ByteArray.ext (by simp [ByteArray.data_extract])
        have x2 : s.extract 5 7 = ⟨#[f, g]⟩ := by rw [hs']; exact ByteArray.ext (by simp [ByteArray.data_extract])
        have x3 : s.extract 8 10 = ⟨#[i, j]⟩ := by rw [hs']; exact ByteArray.ext (by simp [ByteArray.data_extract])
        have ix0 : ∀ w, Sem.run Tryd.prog (Instr.index 44 (.agg #[.string ⟨#[a, b, c, d]⟩, .string ⟨#[f, g]⟩, .string ⟨#[i, j]⟩]) (.int .i64 0)) w = .ok (.string ⟨#[a, b, c, d]⟩) w := fun w => by kernel_rfl
        have ix1 : ∀ w, Sem.run Tryd.prog (Instr.index 44 (.agg #[.string ⟨#[a, b, c, d]⟩, .string ⟨#[f, g]⟩, .string ⟨#[i, j]⟩]) (.int .i64 1)) w = .ok (.string ⟨#[f, g]⟩) w := fun w => by kernel_rfl
        have ix2 : ∀ w, Sem.run Tryd.prog (Instr.index 44 (.agg #[.string ⟨#[a, b, c, d]⟩, .string ⟨#[f, g]⟩, .string ⟨#[i, j]⟩]) (.int .i64 2)) w = .ok (.string ⟨#[i, j]⟩) w := fun w => by kernel_rfl
        clear hs' i4 i7
        go_enter Tryd.func15, Tryd.ntmps15
        go_wp2_with fail
        go_region
        go_wp2_with fail
        refine under_name (((Bel.refl w).alloc _).drew) fun W hc hf hz hb => ?_
        have hA : Sl3 W w.heap.size 0 0 0 := by simp [Sl3, Arr3, Free3, hz, hc, hf, go_sem]
        clear hc hf hz
        go_loopg [29] 3 (fun g' i' wr => Bel w wr ∧
          ((i' = .int .i64 0 ∧ Sl3 wr w.heap.size 0 0 0 ∧ g' = 3) ∨
           (i' = .int .i64 1 ∧ Sl3 wr w.heap.size (numL [a, b, c, d]) 0 0 ∧ g' = 2 ∧ Hid (dOk [a, b, c, d] = true)) ∨
           (i' = .int .i64 2 ∧ Sl3 wr w.heap.size (numL [a, b, c, d]) (numL [f, g]) 0 ∧ g' = 1 ∧ Hid (dOk [a, b, c, d] = true ∧ dOk [f, g] = true)) ∨
           (i' = .int .i64 3 ∧ Sl3 wr w.heap.size (numL [a, b, c, d]) (numL [f, g]) (numL [i, j]) ∧ g' = 0 ∧ Hid (dOk [a, b, c, d] = true ∧ dOk [f, g] = true ∧ dOk [i, j] = true))))
        case atStart => exact ⟨hb, .inl ⟨rfl, hA, rfl⟩⟩
        case round =>
          clear hb hA
          obtain ⟨hb, ⟨rfl, hA, hg⟩ | ⟨rfl, hA, hg, hd⟩ | ⟨rfl, hA, hg, hd⟩ | ⟨rfl, hA, hg, hd⟩⟩ := hrel
          · have Hg := Lib.hid hg
            clear hg
            by_cases hok : dOk [a, b, c, d] = true
            · have hnum : ∀ w, Calls Tryd.prog 26 #[.string ⟨#[a, b, c, d]⟩] w fun e w' => e = .returned (.tuple #[.int .i64 (numL [a, b, c, d]), .bool true]) ∧ Bel w w' := fun w => by
                rw [← show numV [a, b, c, d] = .tuple #[.int .i64 (numL [a, b, c, d]), .bool true] from if_pos hok]
                exact dnum_any ⟨#[a, b, c, d]⟩ (by simp [ByteArray.size]) w
              have Hok := Lib.hid hok
              clear hok
              go_wp2_with (go_at_call 26; refine (hnum _).mono ?_; rintro e w2 ⟨rfl, hb2⟩
                           replace hA := hA.keep hb2; replace hb := hb.trans hb2; clear hb2)
              go_roundg 2
              case measure => have := Hg.out; omega
              case rel => exact ⟨hb.setCell (by simp) _, .inr (.inl ⟨rfl, by simp [Sl3, Arr3, Free3, go_sem, hA], rfl, Hok⟩)⟩
            · have hnum : ∀ w, Calls Tryd.prog 26 #[.string ⟨#[a, b, c, d]⟩] w fun e w' => e = .returned (.tuple #[.int .i64 0, .bool false]) ∧ Bel w w' := fun w => by
                rw [← show numV [a, b, c, d] = .tuple #[.int .i64 0, .bool false] from if_neg hok]
                exact dnum_any ⟨#[a, b, c, d]⟩ (by simp [ByteArray.size]) w
              have hbad := Lib.hid (show parseL a b c d f g i j = .tuple #[.int .i64 0, .int .i64 5] from if_neg fun h => hok h.1)
              clear hok
              go_wp2_with (go_at_call 26; refine (hnum _).mono ?_; rintro e w2 ⟨rfl, hb2⟩
                           replace hA := hA.keep hb2; replace hb := hb.trans hb2; clear hb2)
              go_ret2
              exact ⟨by rw [hbad.out]; rfl, hb⟩
          · have Hg := Lib.hid hg
            clear hg
            by_cases hok : dOk [f, g] = true
            · have hnum : ∀ w, Calls Tryd.prog 26 #[.string ⟨#[f, g]⟩] w fun e w' => e = .returned (.tuple #[.int .i64 (numL [f, g]), .bool true]) ∧ Bel w w' := fun w => by
                rw [← show numV [f, g] = .tuple #[.int .i64 (numL [f, g]), .bool true] from if_pos hok]
                exact dnum_any ⟨#[f, g]⟩ (by simp [ByteArray.size]) w
              have Hok := Lib.hid hok
              clear hok
              go_wp2_with (go_at_call 26; refine (hnum _).mono ?_; rintro e w2 ⟨rfl, hb2⟩
                           replace hA := hA.keep hb2; replace hb := hb.trans hb2; clear hb2)
              go_roundg 1
              case measure => have := Hg.out; omega
              case rel => exact ⟨hb.setCell (by simp) _, .inr (.inr (.inl ⟨rfl, by simp [Sl3, Arr3, Free3, go_sem, hA], rfl, ⟨hd.out, Hok.out⟩⟩))⟩
            · have hnum : ∀ w, Calls Tryd.prog 26 #[.string ⟨#[f, g]⟩] w fun e w' => e = .returned (.tuple #[.int .i64 0, .bool false]) ∧ Bel w w' := fun w => by
                rw [← show numV [f, g] = .tuple #[.int .i64 0, .bool false] from if_neg hok]
                exact dnum_any ⟨#[f, g]⟩ (by simp [ByteArray.size]) w
              have hbad := Lib.hid (show parseL a b c d f g i j = .tuple #[.int .i64 0, .int .i64 5] from if_neg fun h => hok h.2.1)
              clear hok
              go_wp2_with (go_at_call 26; refine (hnum _).mono ?_; rintro e w2 ⟨rfl, hb2⟩
                           replace hA := hA.keep hb2; replace hb := hb.trans hb2; clear hb2)
              go_ret2
              exact ⟨by rw [hbad.out]; rfl, hb⟩
          · have Hg := Lib.hid hg
            clear hg
            by_cases hok : dOk [i, j] = true
            · have hnum : ∀ w, Calls Tryd.prog 26 #[.string ⟨#[i, j]⟩] w fun e w' => e = .returned (.tuple #[.int .i64 (numL [i, j]), .bool true]) ∧ Bel w w' := fun w => by
                rw [← show numV [i, j] = .tuple #[.int .i64 (numL [i, j]), .bool true] from if_pos hok]
                exact dnum_any ⟨#[i, j]⟩ (by simp [ByteArray.size]) w
              have Hok := Lib.hid hok
              clear hok
              go_wp2_with (go_at_call 26; refine (hnum _).mono ?_; rintro e w2 ⟨rfl, hb2⟩
                           replace hA := hA.keep hb2; replace hb := hb.trans hb2; clear hb2)
              go_roundg 0
              case measure => have := Hg.out; omega
              case rel => exact ⟨hb.setCell (by simp) _, .inr (.inr (.inr ⟨rfl, by simp [Sl3, Arr3, Free3, go_sem, hA], rfl, ⟨hd.out.1, hd.out.2, Hok.out⟩⟩))⟩
            · have hnum : ∀ w, Calls Tryd.prog 26 #[.string ⟨#[i, j]⟩] w fun e w' => e = .returned (.tuple #[.int .i64 0, .bool false]) ∧ Bel w w' := fun w => by
                rw [← show numV [i, j] = .tuple #[.int .i64 0, .bool false] from if_neg hok]
                exact dnum_any ⟨#[i, j]⟩ (by simp [ByteArray.size]) w
              have hbad := Lib.hid (show parseL a b c d f g i j = .tuple #[.int .i64 0, .int .i64 5] from if_neg fun h => hok h.2.2)
              clear hok
              go_wp2_with (go_at_call 26; refine (hnum _).mono ?_; rintro e w2 ⟨rfl, hb2⟩
                           replace hA := hA.keep hb2; replace hb := hb.trans hb2; clear hb2)
              go_ret2
              exact ⟨by rw [hbad.out]; rfl, hb⟩
          · have hok : parseL a b c d f g i j = dayV (numL [a, b, c, d]) (numL [f, g]) (numL [i, j]) := if_pos hd.out
            have Hok := Lib.hid hok
            clear hok
            have hv : ∃ x y, dayV (numL [a, b, c, d]) (numL [f, g]) (numL [i, j]) = .tuple #[.int .i64 x, .int .i64 y] := by
              unfold dayV
              split
              · exact ⟨_, _, rfl⟩
              · exact ⟨_, _, rfl⟩
            obtain ⟨x, y, hxy⟩ := hv
            have Hxy := Lib.hid hxy
            have hday := day_any (numL [a, b, c, d]) (numL [f, g]) (numL [i, j])
            rw [hxy] at hday
            clear hxy
            go_wp2_with (go_at_call 8; refine (hday _).mono ?_; rintro e w2 ⟨rfl, hb2⟩
                         replace hb := hb.trans hb2; clear hb2)
            go_ret2
            exact ⟨by rw [Hok.out, Hxy.out]; rfl, hb⟩
      · rw [show parseV s = badV by rw [hs']; simp [parseV, hh]]
        have b1 : (((s[7]'(by omega)).toNat : Int) != 45) = true := by rw [i7]; exact u8_ne hh
        clear hh i4 i7 hs'
        unfold badV
        go_enter Tryd.func15, Tryd.ntmps15
        go_wp2
        go_ret2
        exact ⟨rfl, Bel.refl _⟩
    · rw [show parseV s = badV by rw [hs']; simp [parseV, he]]
      have b1 : (((s[4]'(by omega)).toNat : Int) != 45) = true := by rw [i4]; exact u8_ne he
      clear he i4 i7 hs'
      unfold badV
      go_enter Tryd.func15, Tryd.ntmps15
      go_wp2
      go_ret2
      exact ⟨rfl, Bel.refl _⟩
  · rw [parseV_no s hs]
    have b1 : (((s.size : Nat) : Int) != 10) = true := by simp; omega
    clear hs
    unfold badV
    go_enter Tryd.func15, Tryd.ntmps15
    go_wp2
    go_ret2
    exact ⟨rfl, Bel.refl _⟩
end Go.Proofs.YtabplogknipjiaaDoor
