import Derived.Test.YtobdokeklcdpoaaDoorMkv
import Derived.Deep.LoopGhost
namespace Go.Proofs.YtobdokeklcdpoaaDoor
set_option linter.unusedSimpArgs false
set_option linter.unusedVariables false
open Go.RowKit

/-! The reader: the beginning of an element. -/
theorem tag_step (nm : List UInt8) (f d : Nat) (l : List UInt8) (acc : List (List UInt8 × List UInt8)) : tagL nm (f + 1) d l acc =
    if [62].isPrefixOf (l.dropWhile whB) = true then .ok ((l.dropWhile whB).drop 1) (some ⟨1, 0, nm, acc, []⟩)
    else if [47, 62].isPrefixOf (l.dropWhile whB) = true then .ok ((l.dropWhile whB).drop 2) (some ⟨4, 0, nm, acc, []⟩)
    else if (l.dropWhile whB).length = l.length then .bad 0 8
    else match attL (d + (l.length - (l.dropWhile whB).length)) (l.dropWhile whB) acc with
      | .bad x e => .bad x e
      | .ok r2 acc' d' => tagL nm f d' r2 acc' := rfl
theorem att_h3 {w w0 : World} {B M n : Nat} {t : TypeId} {A : Option Addr} {c : Nat} {v : Value} {ms : List Mk} {xs : List Value} (O : w.ownsRow (M + 1) t 2 (.slice A n c) n xs) (hM : MkRows w0 (B + 1) v ms) (hw0 : w0.heap.size ≤ M) (hBM : B < M) :
    ∀ a, A = some a → B + 1 ≤ a.block ∧ a.block < w.heap.size ∧ v.ownBlock ≠ some a.block := by
  rintro a rfl
  obtain ⟨h1, h2⟩ := World.ownsRow.lt O a.block rfl
  refine ⟨by omega, h2, fun e => ?_⟩
  obtain ⟨xs, h3, _⟩ := hM
  have := (World.ownsRow.lt h3 _ e).2
  omega
theorem own_rows {w : World} {b n : Nat} {t : TypeId} {A : Option Addr} {c : Nat} {xs : List Value} (O : w.ownsRow b t 2 (.slice A n c) n xs) : Row w A xs := by
  obtain ⟨A', c', e', hr', _⟩ := own_row O
  cases e'
  exact hr'
theorem attL_acc {d : Nat} {r : List UInt8} {acc : List (List UInt8 × List UInt8)} {r2 : List UInt8} {acc' : List (List UInt8 × List UInt8)} {d' : Nat} (h : attL d r acc = .ok r2 acc' d') : acc'.length = acc.length + 1 := by
  unfold attL at h
  split at h
  · split at h
    · cases h
    · split at h
      · cases h
      · split at h
        · cases h
        · simp only [Att.ok.injEq] at h
          rw [← h.2.1]
          simp
  · cases h
section
variable {w : World} {B p : Nat} {s : ByteArray} {ms : List Mk} {q e : Int}
set_option maxRecDepth 100000 in
set_option maxHeartbeats 8000000 in
theorem begin_any (h : St w B s p ms q e) (hm : Mx w) (hgB : 0 < B) (hp : p ≤ s.size) (hs : s.size ≤ 65536) (hml : ms.length ≤ 65536) {u : List UInt8} (hl : s.data.toList.drop p = 60 :: u) :
    Calls Tryd.prog 32 #[.pointer (some ⟨B, 0, none⟩)] w fun r w' => PartOut B s p (s.data.toList.drop p) ms q e r w w' (begL (s.data.toList.drop p)) := by
  obtain ⟨v, hR, hM⟩ := h
  obtain ⟨hdr, hzr⟩ := drop_more (a := [60]) hp hl
  have hBw : B ≤ w.heap.size := Nat.le_of_lt hR.1
  have BW := Lib.hid hBw
  have MM := Lib.hid hM
  have T1 := Lib.hid (take_yes hR hp hs ⟨#[60]⟩ (by decide) (preB_of (a := [60]) hl))
  have es : (⟨#[60]⟩ : ByteArray).size = 1 := rfl
  rw [es] at T1
  rw [hl]
  have e4 : (60 :: u).drop 1 = u := rfl
  unfold begL
  rw [e4]
  have hmk : ∀ W, BelBut w W (some B) → Mx W := fun W hb => hm.but hb (by simp; omega)
  simp only [List.length_cons, List.length_nil] at hdr hzr
  have hl1 := tw_lens nmByte u
  have hd3 : s.data.toList.drop (p + 1 + (u.takeWhile nmByte).length) = u.dropWhile nmByte := by rw [← List.drop_drop, hdr, drop_tw]
  have N1 := Lib.hid fun W (R : Rec W B s (p + 1) v q e) => name_meth R (by omega) hs (nm := u.takeWhile nmByte) (by rw [hdr])
  have hul : (60 :: u).length = u.length + 1 := rfl
  generalize u.dropWhile nmByte = y at *
  generalize u.takeWhile nmByte = nm at *
  obtain ⟨r0, ⟨a0, a1, a2, a3, a4⟩, ⟨f0, f1, f2, f3, f4⟩⟩ := hR
  by_cases hn : nmOk nm = true
  · rw [hn] at N1
    rw [if_pos hn]
    obtain ⟨RES, hRES⟩ : ∃ RES, RES = tagL nm ((60 :: u).length + 1) (1 + nm.length) y [] := ⟨_, rfl⟩
    rw [← hRES]
    have HR := Lib.hid hRES
    have HL := Lib.hid hul
    have HMK := Lib.hid hmk
    clear hRES hl hn hdr hmk hul hBw hM
    go_enter Tryd.func32, Tryd.ntmps32
    go_upto_region 7 with (first
      | (go_at_call 45; refine (N1.out _ R1).mono ?_; rintro r W2 ⟨rfl, R2, B2⟩)
      | (go_at_call 41; refine (T1.out).mono ?_; rintro r W1 ⟨rfl, R1, B1⟩))
    have B12 := but_trans B1 B2
    have MM2 := Lib.hid (MM.out.light B12)
    refine under_name (w0 := W2) (by (repeat (first | with_reducible exact Bel.refl _ | with_reducible refine Bel.setCell ?_ (by first | exact Nat.le_refl _ | (dsimp only; omega)) _ | with_reducible refine Bel.alloc ?_ _ | with_reducible refine Bel.drew ?_ | with_reducible assumption | with_reducible refine Bel.trans ?_ (by assumption)))) fun W3 hc hf hz hb => ?_
    have M3 : MR W3 W2.heap.size 1 ((p : Nat) : Int) nm (.slice none 0 0) := by
      simp [MR, hc, hf, hz, go_sem]
      try rfl
    have R3 := Lib.hid (R2.keep hb)
    have B3 := Lib.hid (bel_but hb (some B))
    have hBM : B < W2.heap.size := R2.1
    have O3 := Lib.hid (World.ownsRow_nil W3 (W2.heap.size + 1) 48 2)
    have MH3 := Lib.hid M3
    clear hc hf hz hb M3 R1 R2 a0 a1 a2 a3 a4 f0 f1 f2 f3 f4
    obtain ⟨M, hMe⟩ : ∃ M, M = W2.heap.size := ⟨_, rfl⟩
    rw [← hMe] at MH3 O3 hBM ⊢
    have hw0 : W2.heap.size ≤ M := by omega
    clear hMe
    go_loopg [] (y.length + 1) (fun g wr => ∃ (p' d f : Nat) (acc : List (List UInt8 × List UInt8)) (A : Option Addr) (c : Nat), Hid (g = s.size - p' + 1 ∧ p' ≤ s.size ∧ p + d = p' ∧ acc.length ≤ p' ∧ RES = tagL nm f d (s.data.toList.drop p') acc ∧ s.size - p' < f) ∧ Hid (BelBut W2 wr (some B)) ∧ Hid (Rec wr B s p' v q e) ∧ Hid (MR wr M 1 ((p : Nat) : Int) nm (.slice A acc.length c)) ∧ Hid (wr.ownsRow (M + 1) 48 2 (.slice A acc.length c) acc.length (atsCells acc)))
    case atStart =>
      refine ⟨p + 1 + nm.length, 1 + nm.length, (60 :: u).length + 1, [], none, 0, ⟨by omega, by omega, by omega, by simp, by rw [hd3]; exact HR.out, by have := HL.out; omega⟩, B3.out, R3.out, MH3.out, O3.out⟩
    case round =>
      obtain ⟨p', d, f, acc, A, c, hh, hB, hR, hMR, hO⟩ := hrel
      obtain ⟨f, rfl⟩ : ∃ f', f = f' + 1 := ⟨f - 1, by have := hh.out.2.2.2.2.2; omega⟩
      have hp' := hh.out.2.1
      have hpd := hh.out.2.2.1
      have hls : (s.data.toList.drop p').length = s.size - p' := by rw [List.length_drop, size_list]
      have RS := hh.out.2.2.2.2.1
      rw [tag_step] at RS
      have hl2 := tw_lens whB (s.data.toList.drop p')
      have hd4 : s.data.toList.drop (p' + ((s.data.toList.drop p').takeWhile whB).length) = (s.data.toList.drop p').dropWhile whB := by rw [← List.drop_drop, drop_tw]
      have WH := Lib.hid (white_meth hR.out hp' hs rfl)
      rw [hls] at RS hl2
      clear hls
      generalize (s.data.toList.drop p').dropWhile whB = z at *
      generalize (s.data.toList.drop p').takeWhile whB = wh at *
      have hacc : acc.length ≤ 65536 := by have := hh.out.2.2.2.1; omega
      by_cases h62 : [62].isPrefixOf z = true
      · obtain ⟨x, rfl⟩ := (pre_cons _ _).1 h62
        rw [if_pos h62] at RS
        have e1 : (62 :: x).drop 1 = x := rfl
        rw [e1] at RS
        have TA := Lib.hid fun W (R : Rec W B s (p' + wh.length) v q e) => take_yes R (by omega) hs ⟨#[62]⟩ (by decide) (preB_of (a := [62]) (u := x) hd4)
        have es1 : (⟨#[62]⟩ : ByteArray).size = 1 := rfl
        rw [es1] at TA
        have LE := Lib.hid (show p + ((60 :: u).length - x.length) = p' + wh.length + 1 from by
          rw [List.length_cons] at hl2
          have := HL.out
          omega)
        have RS := Lib.hid RS
        clear h62 hl1 hl2 hd3 hd4 HL HR N1 T1
        go_upto_region 15 with (first
          | (go_at_call 41; refine (TA.out _ R4).mono ?_; rintro r W5 ⟨rfl, R5, B5⟩)
          | (go_at_call 46; refine (WH.out).mono ?_; rintro r W4 ⟨rfl, R4, B4⟩))
        have HRX := Lib.hid R5
        have HMX := Lib.hid (hMR.out.but (but_trans B4 B5) (fun e => by cases e; omega))
        have HOX := Lib.hid (own_but hO.out (but_trans B4 B5) (by omega))
        have HBX := Lib.hid (but_trans hB.out (but_trans B4 B5))
        clear R5 R4 B4 B5
        generalize W5 = WX at *
        have NB := Lib.hid MM.out.ne
        have nM : v.ownBlock ≠ some M := by
          obtain ⟨xs, h1, _⟩ := MM2.out
          intro e
          have := (World.ownsRow.lt h1 _ e).2
          omega
        have NM := Lib.hid nM
        obtain ⟨zX, ⟨mX0, mX1, mX2, mX3, mX4⟩, _⟩ := (id HMX.out : MR WX M 1 ((p : Nat) : Int) nm _)
        obtain ⟨rX, ⟨_, _, cX2, _, _⟩, _⟩ := (id HRX.out : Rec WX B s _ v q e)
        clear nM
        refine wp_region_noPanic ?_
        refine wp_region_held (S := fun X => X.cell? ⟨M, 0, none⟩ = some (.int .i64 1) ∧ X.cell? ⟨M, 1, none⟩ = some (.int .i64 ((p : Nat) : Int)) ∧ X.cell? ⟨M, 2, none⟩ = some (.string (bytesOf nm)) ∧ X.cell? ⟨M, 3, none⟩ = some (.slice A acc.length c) ∧ X.cell? ⟨M, 4, none⟩ = some (.string ⟨#[]⟩)) (by kernel_rfl) ?_
        have hX0 : Bel WX { WX with drawn := WX.drawn + 1 } := (Bel.refl WX).drew
        generalize { WX with drawn := WX.drawn + 1 } = X0 at hX0 ⊢
        replace mX0 := (hX0.cells _ _ zX).trans mX0
        replace mX1 := (hX0.cells _ _ zX).trans mX1
        replace mX2 := (hX0.cells _ _ zX).trans mX2
        replace mX3 := (hX0.cells _ _ zX).trans mX3
        replace mX4 := (hX0.cells _ _ zX).trans mX4
        replace cX2 := (hX0.cells _ _ rX).trans cX2
        replace zX : M < X0.heap.size := Nat.lt_of_lt_of_le zX hX0.size
        replace rX : B < X0.heap.size := Nat.lt_of_lt_of_le rX hX0.size
        refine wpAnyH_take (i := 0) (oi := { dst := some 42, op := Op.move (Operand.tmp 0), type := 49, pos := "reader.go:169", after := #[], guard := none }) (v := .pointer (some ⟨B, 0, none⟩)) rfl (by kernel_rfl) (by kernel_rfl) (by kernel_rfl) (fun _ _ _ h => h) (.inl ⟨by rfl, fun X hS => by
            obtain ⟨k0, k1, k2, k3, k4⟩ := hS
            go_simp; first | done | with_reducible rfl | rfl⟩) ⟨mX0, mX1, mX2, mX3, mX4⟩ ?_
        (try simp only [Act.put, List.setIfInBounds_toArray, List.set_cons_zero, List.set_cons_succ])
        refine wpAnyH_take (i := 1) (oi := { dst := some 43, op := Op.move (Operand.tmp 0), type := 49, pos := "reader.go:169", after := #[], guard := none }) (v := .pointer (some ⟨B, 0, none⟩)) rfl (by kernel_rfl) (by kernel_rfl) (by kernel_rfl) (fun _ _ _ h => h) (.inl ⟨by rfl, fun X hS => by
            obtain ⟨k0, k1, k2, k3, k4⟩ := hS
            go_simp; first | done | with_reducible rfl | rfl⟩) ⟨mX0, mX1, mX2, mX3, mX4⟩ ?_
        (try simp only [Act.put, List.setIfInBounds_toArray, List.set_cons_zero, List.set_cons_succ])
        refine wpAnyH_take (i := 2) (oi := { dst := some 44, op := Op.nilCheck (Operand.tmp 43), type := 0, pos := "reader.go:169", after := #[{ on := 1, ground := Ground.data }], guard := none }) (v := .pointer (some ⟨B, 0, none⟩)) rfl (by kernel_rfl) (by kernel_rfl) (by kernel_rfl) (fun _ _ _ h => h) (.inl ⟨by rfl, fun X hS => by
            obtain ⟨k0, k1, k2, k3, k4⟩ := hS
            go_simp; first | done | with_reducible rfl | rfl⟩) ⟨mX0, mX1, mX2, mX3, mX4⟩ ?_
        (try simp only [Act.put, List.setIfInBounds_toArray, List.set_cons_zero, List.set_cons_succ])
        refine wpAnyH_take (i := 3) (oi := { dst := some 45, op := Op.fieldAddr 51 (Operand.tmp 44) 2, type := 0, pos := "reader.go:169", after := #[{ on := 2, ground := Ground.data }], guard := none }) (v := .pointer (some ⟨B, 2, none⟩)) rfl (by kernel_rfl) (by kernel_rfl) (by kernel_rfl) (fun _ _ _ h => h) (.inl ⟨by rfl, fun X hS => by
            obtain ⟨k0, k1, k2, k3, k4⟩ := hS
            go_simp; first | done | with_reducible rfl | rfl⟩) ⟨mX0, mX1, mX2, mX3, mX4⟩ ?_
        (try simp only [Act.put, List.setIfInBounds_toArray, List.set_cons_zero, List.set_cons_succ])
        refine wpAnyH_take (i := 5) (oi := { dst := some 47, op := Op.load 31 (Operand.tmp 6), type := 31, pos := "reader.go:169", after := #[], guard := none }) (v := .agg #[.int .i64 1, .int .i64 ((p : Nat) : Int), .string (bytesOf nm), .slice A acc.length c, .string ⟨#[]⟩]) rfl (by kernel_rfl) (by kernel_rfl) (by kernel_rfl) (fun _ _ _ h => h) (.inl ⟨by rfl, fun X hS => by
            obtain ⟨k0, k1, k2, k3, k4⟩ := hS
            go_simp; first | done | with_reducible rfl | rfl⟩) ⟨mX0, mX1, mX2, mX3, mX4⟩ ?_
        (try simp only [Act.put, List.setIfInBounds_toArray, List.set_cons_zero, List.set_cons_succ])
        have SL : World.cell? (X0.alloc (.cells #[.int .i64 1, .int .i64 ((p : Nat) : Int), .string (bytesOf nm), .slice A acc.length c, .string ⟨#[]⟩] 31)) ⟨M, 0, none⟩ = some (.int .i64 1) ∧ World.cell? (X0.alloc (.cells #[.int .i64 1, .int .i64 ((p : Nat) : Int), .string (bytesOf nm), .slice A acc.length c, .string ⟨#[]⟩] 31)) ⟨M, 1, none⟩ = some (.int .i64 ((p : Nat) : Int)) ∧ World.cell? (X0.alloc (.cells #[.int .i64 1, .int .i64 ((p : Nat) : Int), .string (bytesOf nm), .slice A acc.length c, .string ⟨#[]⟩] 31)) ⟨M, 2, none⟩ = some (.string (bytesOf nm)) ∧ World.cell? (X0.alloc (.cells #[.int .i64 1, .int .i64 ((p : Nat) : Int), .string (bytesOf nm), .slice A acc.length c, .string ⟨#[]⟩] 31)) ⟨M, 3, none⟩ = some (.slice A acc.length c) ∧ World.cell? (X0.alloc (.cells #[.int .i64 1, .int .i64 ((p : Nat) : Int), .string (bytesOf nm), .slice A acc.length c, .string ⟨#[]⟩] 31)) ⟨M, 4, none⟩ = some (.string ⟨#[]⟩) := by
          refine ⟨?_, ?_, ?_, ?_, ?_⟩ <;> simp [go_sem, mX0, mX1, mX2, mX3, mX4, zX]
        refine wpAnyH_all (rs := [4, 6]) (by kernel_rfl) (by simp) ?_
        intro i hi
        simp only [List.mem_cons, List.not_mem_nil, or_false] at hi
        rcases hi with rfl | rfl
        case' inl =>
          refine wpOp_value (o := { dst := some 46, op := Op.load 22 (Operand.tmp 45), type := 22, pos := "reader.go:169", after := #[{ on := 3, ground := Ground.data }], guard := none }) (v := v) (w' := X0) rfl (by rfl) (by go_simp; first | done | with_reducible rfl | rfl) ?_
          refine ⟨⟨mX0, mX1, mX2, mX3, mX4⟩, ?_⟩
          (try simp only [Act.put, List.setIfInBounds_toArray, List.set_cons_zero, List.set_cons_succ])
          refine wpAnyH_all (rs := [6]) (by kernel_rfl) (by simp) ?_
          intro i hi
          simp only [List.mem_cons, List.not_mem_nil, or_false] at hi
          subst hi
          refine wpOp_value (o := { dst := some 48, op := Op.buildSlice 22 1 #[(0, Operand.tmp 47)], type := 22, pos := "reader.go:169", after := #[{ on := 5, ground := Ground.data }], guard := none }) (v := .slice (some ⟨X0.heap.size, 0, none⟩) 1 1) (w' := (X0.alloc (.cells #[.int .i64 1, .int .i64 ((p : Nat) : Int), .string (bytesOf nm), .slice A acc.length c, .string ⟨#[]⟩] 31))) rfl (by rfl) (by go_simp; first | done | with_reducible rfl | rfl) ?_
          refine ⟨SL, ?_⟩
          (try simp only [Act.put, List.setIfInBounds_toArray, List.set_cons_zero, List.set_cons_succ])
        case' inr =>
          refine wpOp_value (o := { dst := some 48, op := Op.buildSlice 22 1 #[(0, Operand.tmp 47)], type := 22, pos := "reader.go:169", after := #[{ on := 5, ground := Ground.data }], guard := none }) (v := .slice (some ⟨X0.heap.size, 0, none⟩) 1 1) (w' := (X0.alloc (.cells #[.int .i64 1, .int .i64 ((p : Nat) : Int), .string (bytesOf nm), .slice A acc.length c, .string ⟨#[]⟩] 31))) rfl (by rfl) (by go_simp; first | done | with_reducible rfl | rfl) ?_
          refine ⟨SL, ?_⟩
          (try simp only [Act.put, List.setIfInBounds_toArray, List.set_cons_zero, List.set_cons_succ])
          refine wpAnyH_all (rs := [4]) (by kernel_rfl) (by simp) ?_
          intro i hi
          simp only [List.mem_cons, List.not_mem_nil, or_false] at hi
          subst hi
          refine wpOp_value (o := { dst := some 46, op := Op.load 22 (Operand.tmp 45), type := 22, pos := "reader.go:169", after := #[{ on := 3, ground := Ground.data }], guard := none }) (v := v) (w' := (X0.alloc (.cells #[.int .i64 1, .int .i64 ((p : Nat) : Int), .string (bytesOf nm), .slice A acc.length c, .string ⟨#[]⟩] 31))) rfl (by rfl) (by go_simp; first | done | with_reducible rfl | rfl) ?_
          refine ⟨SL, ?_⟩
          (try simp only [Act.put, List.setIfInBounds_toArray, List.set_cons_zero, List.set_cons_succ])
        all_goals
          refine wpAnyH_all (rs := [7]) (by kernel_rfl) (by simp) ?_
          intro i hi
          simp only [List.mem_cons, List.not_mem_nil, or_false] at hi
          subst hi
          obtain ⟨v', X1, hr, HM1, B1'⟩ := app_mark ((MM2.out.light HBX.out).keep hX0) (by have := rX; omega) hml ⟨1, ((p : Nat) : Int), nm, acc, []⟩ A c (own_rows (own_keep HOX.out hX0)) (att_h3 (own_keep HOX.out hX0) MM2.out hw0 hBM) 22
          obtain ⟨A1, k1, rfl⟩ := HM1.val1
          have HM1 := Lib.hid HM1
          refine wpOp_app (o := { dst := some 49, op := Op.call { callee := Callee.builtin Builtin.append, args := #[Operand.tmp 46, Operand.tmp 48], argTypes := #[22, 22] }, type := 22, pos := "reader.go:169", after := #[{ on := 4, ground := Ground.data }, { on := 6, ground := Ground.data }], guard := none }) rfl rfl (.tmp 46) (.tmp 48) 22 rfl hr ?_
          have M7 := (HMX.out.keep hX0).but B1' NM.out
          have R7 := (HRX.out.keep hX0).but B1' NB.out
          have R8 := Lib.hid R7
          obtain ⟨_, ⟨n0, n1, n2, n3, n4⟩, _⟩ := M7
          obtain ⟨r7, ⟨_, _, c72, _, _⟩, ⟨_, _, g72, _, _⟩⟩ := R7
          have SX : X1.cell? ⟨M, 0, none⟩ = some (.int .i64 1) ∧ X1.cell? ⟨M, 1, none⟩ = some (.int .i64 ((p : Nat) : Int)) ∧ X1.cell? ⟨M, 2, none⟩ = some (.string (bytesOf nm)) ∧ X1.cell? ⟨M, 3, none⟩ = some (.slice A acc.length c) ∧ X1.cell? ⟨M, 4, none⟩ = some (.string ⟨#[]⟩) := ⟨n0, n1, n2, n3, n4⟩
          clear hr mX0 mX1 mX2 mX3 mX4 cX2 SL
          refine ⟨SX, ?_⟩
          (try simp only [Act.put, List.setIfInBounds_toArray, List.set_cons_zero, List.set_cons_succ])
          refine wpAnyH_take (i := 8) (oi := { dst := some 50, op := Op.nilCheck (Operand.tmp 42), type := 0, pos := "reader.go:169", after := #[{ on := 0, ground := Ground.data }, { on := 0, ground := Ground.phase }, { on := 1, ground := Ground.phase }, { on := 2, ground := Ground.phase }, { on := 3, ground := Ground.phase }, { on := 4, ground := Ground.phase }, { on := 5, ground := Ground.phase }, { on := 6, ground := Ground.phase }, { on := 7, ground := Ground.phase }], guard := none }) (v := .pointer (some ⟨B, 0, none⟩)) rfl (by kernel_rfl) (by kernel_rfl) (by kernel_rfl) (fun _ _ _ h => h) (.inl ⟨by rfl, fun X hS => by
              go_simp; first | done | with_reducible rfl | rfl⟩) SX ?_
          (try simp only [Act.put, List.setIfInBounds_toArray, List.set_cons_zero, List.set_cons_succ])
          refine wpAnyH_take (i := 9) (oi := { dst := some 51, op := Op.fieldAddr 51 (Operand.tmp 50) 2, type := 0, pos := "reader.go:169", after := #[{ on := 8, ground := Ground.data }, { on := 0, ground := Ground.phase }, { on := 1, ground := Ground.phase }, { on := 2, ground := Ground.phase }, { on := 3, ground := Ground.phase }, { on := 4, ground := Ground.phase }, { on := 5, ground := Ground.phase }, { on := 6, ground := Ground.phase }, { on := 7, ground := Ground.phase }], guard := none }) (v := .pointer (some ⟨B, 2, none⟩)) rfl (by kernel_rfl) (by kernel_rfl) (by kernel_rfl) (fun _ _ _ h => h) (.inl ⟨by rfl, fun X hS => by
              go_simp; first | done | with_reducible rfl | rfl⟩) SX ?_
          (try simp only [Act.put, List.setIfInBounds_toArray, List.set_cons_zero, List.set_cons_succ])
          refine wpAnyH_all (rs := [10]) (by kernel_rfl) (by simp) ?_
          intro i hi
          simp only [List.mem_cons, List.not_mem_nil, or_false] at hi
          subst hi
          have hBMn : ¬ B = M := by omega
          have hMBn : ¬ M = B := by omega
          refine wpOp_skip (o := { dst := none, op := Op.store 22 (Operand.tmp 51) (Operand.tmp 49), type := 0, pos := "reader.go:169", after := #[{ on := 9, ground := Ground.data }, { on := 7, ground := Ground.data }, { on := 7, ground := Ground.chain }, { on := 0, ground := Ground.phase }, { on := 1, ground := Ground.phase }, { on := 2, ground := Ground.phase }, { on := 3, ground := Ground.phase }, { on := 4, ground := Ground.phase }, { on := 5, ground := Ground.phase }, { on := 6, ground := Ground.phase }, { on := 7, ground := Ground.phase }], guard := none }) (w' := (X1.setCell ⟨B, 2, none⟩ (.slice A1 (ms.length + 1) k1))) rfl (by rfl) (by go_simp; first | done | with_reducible rfl | rfl) ?_
          refine ⟨by refine ⟨?_, ?_, ?_, ?_, ?_⟩ <;> simp [go_sem, n0, n1, n2, n3, n4, hBMn, hMBn], ?_⟩
          (try simp only [Act.put, List.setIfInBounds_toArray, List.set_cons_zero, List.set_cons_succ])
          refine wpAnyH_done (by kernel_rfl) ?_ _
          refine NoPanic.normal ?_
          have FINH : Hid (Below B w (X1.setCell ⟨B, 2, none⟩ (.slice A1 (ms.length + 1) k1)) ∧ Rec (X1.setCell ⟨B, 2, none⟩ (.slice A1 (ms.length + 1) k1)) B s (p' + wh.length + 1) (.slice A1 (ms.length + 1) k1) q e ∧ MkRows (X1.setCell ⟨B, 2, none⟩ (.slice A1 (ms.length + 1) k1)) (B + 1) (.slice A1 (ms.length + 1) k1) (ms ++ [⟨1, ((p : Nat) : Int), nm, acc, []⟩])) := by
            refine ⟨?_, R8.out.set2 _, HM1.out.light (but_set _ _ _ _)⟩
            have q1 := but_below (but_trans B12 HBX.out) BW.out
            have q2 : Below B WX X0 := Below.mono hX0 (Nat.le_of_lt HRX.out.1)
            exact (q1.trans q2).trans ((but_below' B1' NB.out MM.out (Nat.le_of_lt rX)).setCell (Nat.le_refl _) _)
          generalize (X1.setCell ⟨B, 2, none⟩ (.slice A1 (ms.length + 1) k1)) = X2 at FINH ⊢
          clear n0 n1 n2 n3 n4 c72 g72 SX
          go_wp2_with fail
          go_ret
          rw [RS.out]
          refine ⟨FINH.out.1, rfl, _, ?_, FINH.out.2.2⟩
          rw [LE.out]
          exact FINH.out.2.1
      · have n62 : preB s (p' + wh.length) ⟨#[62]⟩ = false := by unfold preB; rw [hd4]; exact Bool.eq_false_iff.2 h62
        have TA := Lib.hid fun W (R : Rec W B s (p' + wh.length) v q e) => take_no R (by omega) hs ⟨#[62]⟩ n62
        rw [if_neg h62] at RS
        clear n62 h62
        by_cases h47 : [47, 62].isPrefixOf z = true
        · obtain ⟨x, rfl⟩ := (pre_iff _ _).1 h47
          rw [if_pos h47] at RS
          have e1 : ([47, 62] ++ x).drop 2 = x := rfl
          rw [e1] at RS
          have TB := Lib.hid fun W (R : Rec W B s (p' + wh.length) v q e) => take_yes R (by omega) hs ⟨#[47, 62]⟩ (by decide) (preB_of (a := [47, 62]) (u := x) hd4)
          have es1 : (⟨#[47, 62]⟩ : ByteArray).size = 2 := rfl
          rw [es1] at TB
          have LE := Lib.hid (show p + ((60 :: u).length - x.length) = p' + wh.length + 2 from by
            rw [show ([47, 62] ++ x : List UInt8).length = x.length + 2 by simp] at hl2
            have := HL.out
            omega)
          have RS := Lib.hid RS
          clear h47 hl1 hl2 hd3 hd4 HL HR N1 T1
          go_upto_region 15 with (first
            | (go_at_call 41; refine (TB.out _ R5).mono ?_; rintro r W6 ⟨rfl, R6, B6⟩; have M6 := hMR.out.but (but_trans B4 (but_trans B5 B6)) (fun e => by cases e; omega); obtain ⟨z6, ⟨m60, m61, m62, m63, m64⟩, ⟨h60, h61, h62, h63, h64⟩⟩ := (id M6 : MR W6 M 1 ((p : Nat) : Int) nm _))
            | (go_at_call 41; refine (TA.out _ R4).mono ?_; rintro r W5 ⟨rfl, R5, B5⟩)
            | (go_at_call 46; refine (WH.out).mono ?_; rintro r W4 ⟨rfl, R4, B4⟩))
          have HRX : Hid (Rec (W6.setCell ⟨M, 0, none⟩ (.int .i64 4)) B s (p' + wh.length + 2) v q e) := R6.but (but_set _ _ _ _) (fun e => by cases e; omega)
          have HMX : Hid (MR (W6.setCell ⟨M, 0, none⟩ (.int .i64 4)) M 4 ((p : Nat) : Int) nm (.slice A acc.length c)) := M6.set0 4
          have HOX : Hid ((W6.setCell ⟨M, 0, none⟩ (.int .i64 4)).ownsRow (M + 1) 48 2 (.slice A acc.length c) acc.length (atsCells acc)) := own_but (own_but hO.out (but_trans B4 (but_trans B5 B6)) (by omega)) (but_set _ _ _ _) (Nat.lt_succ_self M)
          have HBX : Hid (BelBut W2 (W6.setCell ⟨M, 0, none⟩ (.int .i64 4)) (some B)) := World.grownBy.andThen (row' := some M) (but_trans hB.out (but_trans B4 (but_trans B5 B6))) (but_set _ _ _ _) (fun j hj => by left; cases hj; exact hw0)
          clear R6 R5 R4 M6 B4 B5 B6 m60 m61 m62 m63 m64 h60 h61 h62 h63 h64 z6
          generalize (W6.setCell ⟨M, 0, none⟩ (.int .i64 4)) = WX at *
          have NB := Lib.hid MM.out.ne
          have nM : v.ownBlock ≠ some M := by
            obtain ⟨xs, h1, _⟩ := MM2.out
            intro e
            have := (World.ownsRow.lt h1 _ e).2
            omega
          have NM := Lib.hid nM
          obtain ⟨zX, ⟨mX0, mX1, mX2, mX3, mX4⟩, _⟩ := (id HMX.out : MR WX M 4 ((p : Nat) : Int) nm _)
          obtain ⟨rX, ⟨_, _, cX2, _, _⟩, _⟩ := (id HRX.out : Rec WX B s _ v q e)
          clear nM
          refine wp_region_noPanic ?_
          refine wp_region_held (S := fun X => X.cell? ⟨M, 0, none⟩ = some (.int .i64 4) ∧ X.cell? ⟨M, 1, none⟩ = some (.int .i64 ((p : Nat) : Int)) ∧ X.cell? ⟨M, 2, none⟩ = some (.string (bytesOf nm)) ∧ X.cell? ⟨M, 3, none⟩ = some (.slice A acc.length c) ∧ X.cell? ⟨M, 4, none⟩ = some (.string ⟨#[]⟩)) (by kernel_rfl) ?_
          have hX0 : Bel WX { WX with drawn := WX.drawn + 1 } := (Bel.refl WX).drew
          generalize { WX with drawn := WX.drawn + 1 } = X0 at hX0 ⊢
          replace mX0 := (hX0.cells _ _ zX).trans mX0
          replace mX1 := (hX0.cells _ _ zX).trans mX1
          replace mX2 := (hX0.cells _ _ zX).trans mX2
          replace mX3 := (hX0.cells _ _ zX).trans mX3
          replace mX4 := (hX0.cells _ _ zX).trans mX4
          replace cX2 := (hX0.cells _ _ rX).trans cX2
          replace zX : M < X0.heap.size := Nat.lt_of_lt_of_le zX hX0.size
          replace rX : B < X0.heap.size := Nat.lt_of_lt_of_le rX hX0.size
          refine wpAnyH_take (i := 0) (oi := { dst := some 42, op := Op.move (Operand.tmp 0), type := 49, pos := "reader.go:169", after := #[], guard := none }) (v := .pointer (some ⟨B, 0, none⟩)) rfl (by kernel_rfl) (by kernel_rfl) (by kernel_rfl) (fun _ _ _ h => h) (.inl ⟨by rfl, fun X hS => by
              obtain ⟨k0, k1, k2, k3, k4⟩ := hS
              go_simp; first | done | with_reducible rfl | rfl⟩) ⟨mX0, mX1, mX2, mX3, mX4⟩ ?_
          (try simp only [Act.put, List.setIfInBounds_toArray, List.set_cons_zero, List.set_cons_succ])
          refine wpAnyH_take (i := 1) (oi := { dst := some 43, op := Op.move (Operand.tmp 0), type := 49, pos := "reader.go:169", after := #[], guard := none }) (v := .pointer (some ⟨B, 0, none⟩)) rfl (by kernel_rfl) (by kernel_rfl) (by kernel_rfl) (fun _ _ _ h => h) (.inl ⟨by rfl, fun X hS => by
              obtain ⟨k0, k1, k2, k3, k4⟩ := hS
              go_simp; first | done | with_reducible rfl | rfl⟩) ⟨mX0, mX1, mX2, mX3, mX4⟩ ?_
          (try simp only [Act.put, List.setIfInBounds_toArray, List.set_cons_zero, List.set_cons_succ])
          refine wpAnyH_take (i := 2) (oi := { dst := some 44, op := Op.nilCheck (Operand.tmp 43), type := 0, pos := "reader.go:169", after := #[{ on := 1, ground := Ground.data }], guard := none }) (v := .pointer (some ⟨B, 0, none⟩)) rfl (by kernel_rfl) (by kernel_rfl) (by kernel_rfl) (fun _ _ _ h => h) (.inl ⟨by rfl, fun X hS => by
              obtain ⟨k0, k1, k2, k3, k4⟩ := hS
              go_simp; first | done | with_reducible rfl | rfl⟩) ⟨mX0, mX1, mX2, mX3, mX4⟩ ?_
          (try simp only [Act.put, List.setIfInBounds_toArray, List.set_cons_zero, List.set_cons_succ])
          refine wpAnyH_take (i := 3) (oi := { dst := some 45, op := Op.fieldAddr 51 (Operand.tmp 44) 2, type := 0, pos := "reader.go:169", after := #[{ on := 2, ground := Ground.data }], guard := none }) (v := .pointer (some ⟨B, 2, none⟩)) rfl (by kernel_rfl) (by kernel_rfl) (by kernel_rfl) (fun _ _ _ h => h) (.inl ⟨by rfl, fun X hS => by
              obtain ⟨k0, k1, k2, k3, k4⟩ := hS
              go_simp; first | done | with_reducible rfl | rfl⟩) ⟨mX0, mX1, mX2, mX3, mX4⟩ ?_
          (try simp only [Act.put, List.setIfInBounds_toArray, List.set_cons_zero, List.set_cons_succ])
          refine wpAnyH_take (i := 5) (oi := { dst := some 47, op := Op.load 31 (Operand.tmp 6), type := 31, pos := "reader.go:169", after := #[], guard := none }) (v := .agg #[.int .i64 4, .int .i64 ((p : Nat) : Int), .string (bytesOf nm), .slice A acc.length c, .string ⟨#[]⟩]) rfl (by kernel_rfl) (by kernel_rfl) (by kernel_rfl) (fun _ _ _ h => h) (.inl ⟨by rfl, fun X hS => by
              obtain ⟨k0, k1, k2, k3, k4⟩ := hS
              go_simp; first | done | with_reducible rfl | rfl⟩) ⟨mX0, mX1, mX2, mX3, mX4⟩ ?_
          (try simp only [Act.put, List.setIfInBounds_toArray, List.set_cons_zero, List.set_cons_succ])
          have SL : World.cell? (X0.alloc (.cells #[.int .i64 4, .int .i64 ((p : Nat) : Int), .string (bytesOf nm), .slice A acc.length c, .string ⟨#[]⟩] 31)) ⟨M, 0, none⟩ = some (.int .i64 4) ∧ World.cell? (X0.alloc (.cells #[.int .i64 4, .int .i64 ((p : Nat) : Int), .string (bytesOf nm), .slice A acc.length c, .string ⟨#[]⟩] 31)) ⟨M, 1, none⟩ = some (.int .i64 ((p : Nat) : Int)) ∧ World.cell? (X0.alloc (.cells #[.int .i64 4, .int .i64 ((p : Nat) : Int), .string (bytesOf nm), .slice A acc.length c, .string ⟨#[]⟩] 31)) ⟨M, 2, none⟩ = some (.string (bytesOf nm)) ∧ World.cell? (X0.alloc (.cells #[.int .i64 4, .int .i64 ((p : Nat) : Int), .string (bytesOf nm), .slice A acc.length c, .string ⟨#[]⟩] 31)) ⟨M, 3, none⟩ = some (.slice A acc.length c) ∧ World.cell? (X0.alloc (.cells #[.int .i64 4, .int .i64 ((p : Nat) : Int), .string (bytesOf nm), .slice A acc.length c, .string ⟨#[]⟩] 31)) ⟨M, 4, none⟩ = some (.string ⟨#[]⟩) := by
            refine ⟨?_, ?_, ?_, ?_, ?_⟩ <;> simp [go_sem, mX0, mX1, mX2, mX3, mX4, zX]
          refine wpAnyH_all (rs := [4, 6]) (by kernel_rfl) (by simp) ?_
          intro i hi
          simp only [List.mem_cons, List.not_mem_nil, or_false] at hi
          rcases hi with rfl | rfl
          case' inl =>
            refine wpOp_value (o := { dst := some 46, op := Op.load 22 (Operand.tmp 45), type := 22, pos := "reader.go:169", after := #[{ on := 3, ground := Ground.data }], guard := none }) (v := v) (w' := X0) rfl (by rfl) (by go_simp; first | done | with_reducible rfl | rfl) ?_
            refine ⟨⟨mX0, mX1, mX2, mX3, mX4⟩, ?_⟩
            (try simp only [Act.put, List.setIfInBounds_toArray, List.set_cons_zero, List.set_cons_succ])
            refine wpAnyH_all (rs := [6]) (by kernel_rfl) (by simp) ?_
            intro i hi
            simp only [List.mem_cons, List.not_mem_nil, or_false] at hi
            subst hi
            refine wpOp_value (o := { dst := some 48, op := Op.buildSlice 22 1 #[(0, Operand.tmp 47)], type := 22, pos := "reader.go:169", after := #[{ on := 5, ground := Ground.data }], guard := none }) (v := .slice (some ⟨X0.heap.size, 0, none⟩) 1 1) (w' := (X0.alloc (.cells #[.int .i64 4, .int .i64 ((p : Nat) : Int), .string (bytesOf nm), .slice A acc.length c, .string ⟨#[]⟩] 31))) rfl (by rfl) (by go_simp; first | done | with_reducible rfl | rfl) ?_
            refine ⟨SL, ?_⟩
            (try simp only [Act.put, List.setIfInBounds_toArray, List.set_cons_zero, List.set_cons_succ])
          case' inr =>
            refine wpOp_value (o := { dst := some 48, op := Op.buildSlice 22 1 #[(0, Operand.tmp 47)], type := 22, pos := "reader.go:169", after := #[{ on := 5, ground := Ground.data }], guard := none }) (v := .slice (some ⟨X0.heap.size, 0, none⟩) 1 1) (w' := (X0.alloc (.cells #[.int .i64 4, .int .i64 ((p : Nat) : Int), .string (bytesOf nm), .slice A acc.length c, .string ⟨#[]⟩] 31))) rfl (by rfl) (by go_simp; first | done | with_reducible rfl | rfl) ?_
            refine ⟨SL, ?_⟩
            (try simp only [Act.put, List.setIfInBounds_toArray, List.set_cons_zero, List.set_cons_succ])
            refine wpAnyH_all (rs := [4]) (by kernel_rfl) (by simp) ?_
            intro i hi
            simp only [List.mem_cons, List.not_mem_nil, or_false] at hi
            subst hi
            refine wpOp_value (o := { dst := some 46, op := Op.load 22 (Operand.tmp 45), type := 22, pos := "reader.go:169", after := #[{ on := 3, ground := Ground.data }], guard := none }) (v := v) (w' := (X0.alloc (.cells #[.int .i64 4, .int .i64 ((p : Nat) : Int), .string (bytesOf nm), .slice A acc.length c, .string ⟨#[]⟩] 31))) rfl (by rfl) (by go_simp; first | done | with_reducible rfl | rfl) ?_
            refine ⟨SL, ?_⟩
            (try simp only [Act.put, List.setIfInBounds_toArray, List.set_cons_zero, List.set_cons_succ])
          all_goals
            refine wpAnyH_all (rs := [7]) (by kernel_rfl) (by simp) ?_
            intro i hi
            simp only [List.mem_cons, List.not_mem_nil, or_false] at hi
            subst hi
            obtain ⟨v', X1, hr, HM1, B1'⟩ := app_mark ((MM2.out.light HBX.out).keep hX0) (by have := rX; omega) hml ⟨4, ((p : Nat) : Int), nm, acc, []⟩ A c (own_rows (own_keep HOX.out hX0)) (att_h3 (own_keep HOX.out hX0) MM2.out hw0 hBM) 22
            obtain ⟨A1, k1, rfl⟩ := HM1.val1
            have HM1 := Lib.hid HM1
            refine wpOp_app (o := { dst := some 49, op := Op.call { callee := Callee.builtin Builtin.append, args := #[Operand.tmp 46, Operand.tmp 48], argTypes := #[22, 22] }, type := 22, pos := "reader.go:169", after := #[{ on := 4, ground := Ground.data }, { on := 6, ground := Ground.data }], guard := none }) rfl rfl (.tmp 46) (.tmp 48) 22 rfl hr ?_
            have M7 := (HMX.out.keep hX0).but B1' NM.out
            have R7 := (HRX.out.keep hX0).but B1' NB.out
            have R8 := Lib.hid R7
            obtain ⟨_, ⟨n0, n1, n2, n3, n4⟩, _⟩ := M7
            obtain ⟨r7, ⟨_, _, c72, _, _⟩, ⟨_, _, g72, _, _⟩⟩ := R7
            have SX : X1.cell? ⟨M, 0, none⟩ = some (.int .i64 4) ∧ X1.cell? ⟨M, 1, none⟩ = some (.int .i64 ((p : Nat) : Int)) ∧ X1.cell? ⟨M, 2, none⟩ = some (.string (bytesOf nm)) ∧ X1.cell? ⟨M, 3, none⟩ = some (.slice A acc.length c) ∧ X1.cell? ⟨M, 4, none⟩ = some (.string ⟨#[]⟩) := ⟨n0, n1, n2, n3, n4⟩
            clear hr mX0 mX1 mX2 mX3 mX4 cX2 SL
            refine ⟨SX, ?_⟩
            (try simp only [Act.put, List.setIfInBounds_toArray, List.set_cons_zero, List.set_cons_succ])
            refine wpAnyH_take (i := 8) (oi := { dst := some 50, op := Op.nilCheck (Operand.tmp 42), type := 0, pos := "reader.go:169", after := #[{ on := 0, ground := Ground.data }, { on := 0, ground := Ground.phase }, { on := 1, ground := Ground.phase }, { on := 2, ground := Ground.phase }, { on := 3, ground := Ground.phase }, { on := 4, ground := Ground.phase }, { on := 5, ground := Ground.phase }, { on := 6, ground := Ground.phase }, { on := 7, ground := Ground.phase }], guard := none }) (v := .pointer (some ⟨B, 0, none⟩)) rfl (by kernel_rfl) (by kernel_rfl) (by kernel_rfl) (fun _ _ _ h => h) (.inl ⟨by rfl, fun X hS => by
                go_simp; first | done | with_reducible rfl | rfl⟩) SX ?_
            (try simp only [Act.put, List.setIfInBounds_toArray, List.set_cons_zero, List.set_cons_succ])
            refine wpAnyH_take (i := 9) (oi := { dst := some 51, op := Op.fieldAddr 51 (Operand.tmp 50) 2, type := 0, pos := "reader.go:169", after := #[{ on := 8, ground := Ground.data }, { on := 0, ground := Ground.phase }, { on := 1, ground := Ground.phase }, { on := 2, ground := Ground.phase }, { on := 3, ground := Ground.phase }, { on := 4, ground := Ground.phase }, { on := 5, ground := Ground.phase }, { on := 6, ground := Ground.phase }, { on := 7, ground := Ground.phase }], guard := none }) (v := .pointer (some ⟨B, 2, none⟩)) rfl (by kernel_rfl) (by kernel_rfl) (by kernel_rfl) (fun _ _ _ h => h) (.inl ⟨by rfl, fun X hS => by
                go_simp; first | done | with_reducible rfl | rfl⟩) SX ?_
            (try simp only [Act.put, List.setIfInBounds_toArray, List.set_cons_zero, List.set_cons_succ])
            refine wpAnyH_all (rs := [10]) (by kernel_rfl) (by simp) ?_
            intro i hi
            simp only [List.mem_cons, List.not_mem_nil, or_false] at hi
            subst hi
            have hBMn : ¬ B = M := by omega
            have hMBn : ¬ M = B := by omega
            refine wpOp_skip (o := { dst := none, op := Op.store 22 (Operand.tmp 51) (Operand.tmp 49), type := 0, pos := "reader.go:169", after := #[{ on := 9, ground := Ground.data }, { on := 7, ground := Ground.data }, { on := 7, ground := Ground.chain }, { on := 0, ground := Ground.phase }, { on := 1, ground := Ground.phase }, { on := 2, ground := Ground.phase }, { on := 3, ground := Ground.phase }, { on := 4, ground := Ground.phase }, { on := 5, ground := Ground.phase }, { on := 6, ground := Ground.phase }, { on := 7, ground := Ground.phase }], guard := none }) (w' := (X1.setCell ⟨B, 2, none⟩ (.slice A1 (ms.length + 1) k1))) rfl (by rfl) (by go_simp; first | done | with_reducible rfl | rfl) ?_
            refine ⟨by refine ⟨?_, ?_, ?_, ?_, ?_⟩ <;> simp [go_sem, n0, n1, n2, n3, n4, hBMn, hMBn], ?_⟩
            (try simp only [Act.put, List.setIfInBounds_toArray, List.set_cons_zero, List.set_cons_succ])
            refine wpAnyH_done (by kernel_rfl) ?_ _
            refine NoPanic.normal ?_
            have FINH : Hid (Below B w (X1.setCell ⟨B, 2, none⟩ (.slice A1 (ms.length + 1) k1)) ∧ Rec (X1.setCell ⟨B, 2, none⟩ (.slice A1 (ms.length + 1) k1)) B s (p' + wh.length + 2) (.slice A1 (ms.length + 1) k1) q e ∧ MkRows (X1.setCell ⟨B, 2, none⟩ (.slice A1 (ms.length + 1) k1)) (B + 1) (.slice A1 (ms.length + 1) k1) (ms ++ [⟨4, ((p : Nat) : Int), nm, acc, []⟩])) := by
              refine ⟨?_, R8.out.set2 _, HM1.out.light (but_set _ _ _ _)⟩
              have q1 := but_below (but_trans B12 HBX.out) BW.out
              have q2 : Below B WX X0 := Below.mono hX0 (Nat.le_of_lt HRX.out.1)
              exact (q1.trans q2).trans ((but_below' B1' NB.out MM.out (Nat.le_of_lt rX)).setCell (Nat.le_refl _) _)
            generalize (X1.setCell ⟨B, 2, none⟩ (.slice A1 (ms.length + 1) k1)) = X2 at FINH ⊢
            clear n0 n1 n2 n3 n4 c72 g72 SX
            go_wp2_with fail
            go_ret
            rw [RS.out]
            refine ⟨FINH.out.1, rfl, _, ?_, FINH.out.2.2⟩
            rw [LE.out]
            exact FINH.out.2.1
        · have n47 : preB s (p' + wh.length) ⟨#[47, 62]⟩ = false := by unfold preB; rw [hd4]; exact Bool.eq_false_iff.2 h47
          have TB := Lib.hid fun W (R : Rec W B s (p' + wh.length) v q e) => take_no R (by omega) hs ⟨#[47, 62]⟩ n47
          rw [if_neg h47] at RS
          clear n47 h47
          by_cases h0 : wh.length = 0
          · rw [if_pos (by omega)] at RS
            have e0 : decide (0 < wh.length) = false := by rw [h0]; rfl
            rw [e0] at WH
            subst RS
            clear hl1 hl2 hd3 hd4 HL HR N1 T1 h0 e0
            go_wp2_with (first
              | (go_at_call 43; refine (fail_any R6 _ _).mono ?_; rintro r W7 ⟨rfl, R7, B7⟩)
              | (go_at_call 41; refine (TB.out _ R5).mono ?_; rintro r W6 ⟨rfl, R6, B6⟩)
              | (go_at_call 41; refine (TA.out _ R4).mono ?_; rintro r W5 ⟨rfl, R5, B5⟩)
              | (go_at_call 46; refine (WH.out).mono ?_; rintro r W4 ⟨rfl, R4, B4⟩))
            go_ret
            have BT := but_trans B12 (but_trans hB.out (but_trans B4 (but_trans B5 (but_trans B6 B7))))
            exact ⟨but_below BT BW.out, rfl, _, v, R7, MM.out.light BT⟩
          · rw [if_neg (by omega)] at RS
            have e0 : decide (0 < wh.length) = true := decide_eq_true (by omega)
            rw [e0] at WH
            have ed : d + (s.size - p' - z.length) = d + wh.length := by omega
            rw [ed] at RS
            have AT := Lib.hid fun W (hb : BelBut wr W (some B)) (R : Rec W B s (p' + wh.length) v q e) => attr_any (w0 := W2) (M := M) (k := 1) (x := ((p : Nat) : Int)) (nmm := nm) (va := .slice A acc.length c) (acc := acc) (st := p) (d := d + wh.length) (but_trans hB.out hb) hw0 R (hMR.out.but hb (fun e => by cases e; omega)) rfl (own_but hO.out hb (by omega)) hBM (HMK.out W (but_trans B12 (but_trans hB.out hb))) hgB (by omega) hs hacc (by omega)
            rw [hd4] at AT
            cases hatt : attL (d + wh.length) z acc with
            | bad x er =>
              rw [hatt] at RS AT
              subst RS
              clear hl1 hl2 hd3 hd4 HL HR N1 T1 h0 e0 hatt
              go_wp2_with (first
                | (go_at_call 47; refine (AT.out _ (but_trans B4 (but_trans B5 B6)) R6).mono ?_; rintro r W7 ⟨rfl, B7, p7, R7⟩)
                | (go_at_call 41; refine (TB.out _ R5).mono ?_; rintro r W6 ⟨rfl, R6, B6⟩)
                | (go_at_call 41; refine (TA.out _ R4).mono ?_; rintro r W5 ⟨rfl, R5, B5⟩)
                | (go_at_call 46; refine (WH.out).mono ?_; rintro r W4 ⟨rfl, R4, B4⟩))
              go_ret
              exact ⟨but_below (but_trans B12 B7) BW.out, rfl, p7, v, R7, MM.out.light (but_trans B12 B7)⟩
            | ok r2 acc' d' =>
              obtain ⟨pre, g1, g2, g3, _, _⟩ := attL_ok hatt
              have hac' := attL_acc hatt
              rw [hatt] at RS AT
              have RS := Lib.hid RS
              have hzl := congrArg List.length g1
              rw [List.length_append] at hzl
              have hpl := List.length_pos_iff.2 g2
              have hd5 : s.data.toList.drop (p + d') = r2 := by
                have := (drop_more (p := p' + wh.length) (by omega) (hd4.trans g1)).1
                rw [show p + d' = p' + wh.length + pre.length by omega]
                exact this
              have HF := Lib.hid (show s.size - (p + d') < f ∧ p + d' ≤ s.size ∧ acc'.length ≤ p + d' ∧ p' < p + d' from by
                have h1 := hh.out.2.2.2.1
                have h2 := hh.out.2.2.2.2.2
                omega)
              clear hl1 hl2 hd3 hd4 HL HR N1 T1 h0 e0 hatt g1 g2 g3 hzl hpl hac'
              go_wp2_with (first
                | (go_at_call 47; refine (AT.out _ (but_trans B4 (but_trans B5 B6)) R6).mono ?_; rintro r W7 ⟨rfl, B7, R7, va7, M7, O7⟩)
                | (go_at_call 41; refine (TB.out _ R5).mono ?_; rintro r W6 ⟨rfl, R6, B6⟩)
                | (go_at_call 41; refine (TA.out _ R4).mono ?_; rintro r W5 ⟨rfl, R5, B5⟩)
                | (go_at_call 46; refine (WH.out).mono ?_; rintro r W4 ⟨rfl, R4, B4⟩))
              go_roundg (s.size - (p + d') + 1)
              case measure => have h1 := hh.out.1; have h2 := HF.out; omega
              case rel =>
                obtain ⟨A7, c7, ev, _⟩ := own_row O7
                subst ev
                exact ⟨p + d', d', f, acc', A7, c7, ⟨rfl, HF.out.2.1, rfl, HF.out.2.2.1, by rw [hd5]; exact RS.out, HF.out.1⟩, B7, R7, M7, O7⟩
  · rw [Bool.eq_false_iff.2 hn] at N1
    rw [if_neg hn]
    clear hl hn hdr hd3 hl1 hmk hBw hM hul
    go_enter Tryd.func32, Tryd.ntmps32
    go_wp2_with (first
      | (go_at_call 43; refine (fail_any R2 _ _).mono ?_; rintro r W3 ⟨rfl, R3, B3⟩)
      | (go_at_call 45; refine (N1.out _ R1).mono ?_; rintro r W2 ⟨rfl, R2, B2⟩)
      | (go_at_call 41; refine (T1.out).mono ?_; rintro r W1 ⟨rfl, R1, B1⟩))
    go_ret
    exact ⟨but_below (but_trans B1 (but_trans B2 B3)) BW.out, rfl, _, v, R3, MM.out.light (but_trans B1 (but_trans B2 B3))⟩
end
end Go.Proofs.YtobdokeklcdpoaaDoor
