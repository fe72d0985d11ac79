import Derived.Test.YtobdokeklcdpoaaDoorMlc
import Derived.Deep.LoopGhost
namespace Go.Proofs.YtobdokeklcdpoaaDoor
set_option linter.unusedSimpArgs false
set_option linter.unusedVariables false
open Go.RowKit

/-! A mark is written. -/
abbrev Bld (w0 : World) (b : Nat) (l : List UInt8) (w : World) : Prop := Lib.IsBuilderF 42 5 w0.heap.size b (Lib.byteCells l) w
abbrev Oth (b : Nat) (w w' : World) : Prop := Lib.OthersKept 5 (some b) w w'
theorem bytes_app (a b : List UInt8) : bytesOf a ++ bytesOf b = bytesOf (a ++ b) := by
  rw [← bytesOf_data (bytesOf a ++ bytesOf b)]
  congr 1
theorem bytes_lit (l : List UInt8) : (⟨l.toArray⟩ : ByteArray) = bytesOf l := rfl
set_option maxRecDepth 100000 in
theorem markT_parts (m : Mk) (h : Sml m) : m.name.length ≤ 1048576 ∧ (escL m.text).length ≤ 6291456 ∧ (m.attrs.flatMap attT).length ≤ 7696630087680 := by
  obtain ⟨h1, h2, h3, h4⟩ := h
  have h5 := escL_len m.text
  refine ⟨h1, by omega, ?_⟩
  have key : ∀ l : List (List UInt8 × List UInt8), (∀ a ∈ l, AtSml a) → (l.flatMap attT).length ≤ l.length * 7340036 := by
    intro l
    induction l with
    | nil => intro _; simp
    | cons a l ih =>
      intro ha
      obtain ⟨k1, k2⟩ := ha a (by simp)
      have k3 := escL_len a.2
      have k4 := ih (fun x hx => ha x (by simp [hx]))
      rw [List.flatMap_cons, List.length_append, List.length_cons, Nat.add_mul]
      simp only [attT, List.length_cons, List.length_append, List.length_nil]
      omega
  have := key m.attrs h4
  have := Nat.mul_le_mul_right 7340036 h3
  omega
/-- What a call of the builder's leaves. -/
theorem wstr_any {w0 w : World} {b : Nat} {l : List UInt8} (hI : Bld w0 b l w) (hb : Bel w0 w) (x : List UInt8) (s : ByteArray) (hs : s = bytesOf x) (hl : l.length + x.length ≤ 100000000000000) :
    Calls Tryd.prog 25 #[.pointer (some ⟨b, 0, none⟩), .string s] w fun e w' => e = .returned (.tuple #[.int .i64 (x.length : Nat), .nilIface]) ∧ (Bld w0 b (l ++ x) w' ∧ Bel w0 w' ∧ Oth b w w') := by
  subst hs
  have h := writeString_any w0.heap.size b (Lib.byteCells l) (bytesOf x) w hI (by rw [Lib.byteCells_length, bytesOf_size]; omega) hb.size
  refine h.mono fun e w' ⟨h1, h2, h3, h4⟩ => ⟨by rw [h1, bytesOf_size], ?_, Below.trans hb h3, h4⟩
  rw [strCells_bytes, ← Lib.byteCells_append] at h2
  exact .inr h2
def BoxM (w : World) (N : Nat) (m : Mk) (A : Option Addr) (c : Nat) : Prop := w.heap[N]? = some (.cells #[.int .i64 m.kind, .int .i64 m.pos, .string (bytesOf m.name), .slice A m.attrs.length c, .string (bytesOf m.text)] 31 (0, 0))
theorem BoxM.keep {w w' : World} {N : Nat} {m : Mk} {A : Option Addr} {c : Nat} (h : BoxM w N m A c) (hb : Bel w w') : BoxM w' N m A c := heap_keep hb h
theorem ne_u8 : 31 ≠ 5 := by decide
theorem ne_u8a : 48 ≠ 5 := by decide
theorem BoxM.oth {w w' : World} {N b : Nat} {m : Mk} {A : Option Addr} {c : Nat} (h : BoxM w N m A c) (ho : Oth b w w') (hne : N ≠ b) : BoxM w' N m A c :=
  ho N _ h (fun e => hne (by cases e; rfl)) (fun c fz e => by cases e)
theorem BoxM.lt {w : World} {N : Nat} {m : Mk} {A : Option Addr} {c : Nat} (h : BoxM w N m A c) : N < w.heap.size := (Array.getElem?_eq_some_iff.1 h).1
def BoxA (w : World) (N : Nat) (x y : List UInt8) : Prop := w.heap[N]? = some (.cells #[.string (bytesOf x), .string (bytesOf y)] 48 (0, 0))
theorem BoxA.keep {w w' : World} {N : Nat} {x y : List UInt8} (h : BoxA w N x y) (hb : Bel w w') : BoxA w' N x y := heap_keep hb h
theorem BoxA.oth {w w' : World} {N b : Nat} {x y : List UInt8} (h : BoxA w N x y) (ho : Oth b w w') (hne : N ≠ b) : BoxA w' N x y :=
  ho N _ h (fun e => hne (by cases e; rfl)) (fun c fz e => by cases e)
theorem BoxA.cells {w : World} {N : Nat} {x y : List UInt8} (h : BoxA w N x y) : w.cell? ⟨N, 0, none⟩ = some (.string (bytesOf x)) ∧ w.cell? ⟨N, 1, none⟩ = some (.string (bytesOf y)) := by
  refine ⟨?_, ?_⟩ <;> (rw [Lib.cell_of_heap h]; rfl)
theorem BoxM.cells {w : World} {N : Nat} {m : Mk} {A : Option Addr} {c : Nat} (h : BoxM w N m A c) : w.cell? ⟨N, 0, none⟩ = some (.int .i64 m.kind) ∧ w.cell? ⟨N, 2, none⟩ = some (.string (bytesOf m.name)) ∧ w.cell? ⟨N, 3, none⟩ = some (.slice A m.attrs.length c) ∧ w.cell? ⟨N, 4, none⟩ = some (.string (bytesOf m.text)) := by
  refine ⟨?_, ?_, ?_, ?_⟩ <;> (rw [Lib.cell_of_heap h]; rfl)
theorem oth_bel {b : Nat} {w w' : World} (h : Bel w w') : Oth b w w' := fun k o hk _ _ => by
  have hlt := (Array.getElem?_eq_some_iff.1 hk).1
  rw [Below.block h k hlt]; exact hk
theorem bld_lt {w0 w : World} {b : Nat} {l : List UInt8} (h : Bld w0 b l w) : b < w.heap.size := by
  rcases h with ⟨_, v, h, _⟩ | ⟨_, v, h, _⟩ <;> exact (Array.getElem?_eq_some_iff.1 h).1
theorem attsOk_good : ∀ {al : List (List UInt8 × List UInt8)} {seen : List (List UInt8)}, attsOk seen al = true → ∀ a ∈ al, goodL a.2 = true
  | [], _, _, a, h => by cases h
  | x :: al, seen, h, a, ha => by
    unfold attsOk at h
    simp only [Bool.and_eq_true] at h
    rcases List.mem_cons.1 ha with rfl | ha
    · exact h.1.2
    · exact attsOk_good h.2 a ha
section
variable {w w0 : World} {b : Nat} {l : List UInt8} {m : Mk} {A : Option Addr} {c : Nat}
set_option maxRecDepth 100000 in
set_option maxHeartbeats 4000000 in
theorem write_any (hI : Bld w0 b l w) (hb : Bel w0 w) (hR : Row w0 A (atsCells m.attrs)) (hs : Sml m) (hsn : sndM m = true) (hl : l.length ≤ 1000000) :
    Calls Tryd.prog 15 #[.pointer (some ⟨b, 0, none⟩), mkV m A c] w fun e w' => e = .returned (.tuple #[]) ∧ (Bld w0 b (l ++ markT m) w' ∧ Bel w0 w' ∧ Oth b w w') := by
  obtain ⟨p1, p2, p3⟩ := markT_parts m hs
  have hbx : BoxM (w.alloc (.cells #[.int .i64 m.kind, .int .i64 m.pos, .string (bytesOf m.name), .slice A m.attrs.length c, .string (bytesOf m.text)] 31)) w.heap.size m A c := heap_alloc_new w _
  have hI1 : Bld w0 b l (w.alloc (.cells #[.int .i64 m.kind, .int .i64 m.pos, .string (bytesOf m.name), .slice A m.attrs.length c, .string (bytesOf m.text)] 31)) := hI.alloc _
  have hb1 := hb.alloc (.cells #[.int .i64 m.kind, .int .i64 m.pos, .string (bytesOf m.name), .slice A m.attrs.length c, .string (bytesOf m.text)] 31)
  have ho1 : Oth b w (w.alloc (.cells #[.int .i64 m.kind, .int .i64 m.pos, .string (bytesOf m.name), .slice A m.attrs.length c, .string (bytesOf m.text)] 31)) := oth_bel ((Bel.refl w).alloc _)
  have hNb : w.heap.size ≠ b := by have := bld_lt hI; omega
  have HH := Lib.hid (And.intro hbx (And.intro hI1 (And.intro hb1 (And.intro ho1 hNb))))
  clear hbx hI1 hb1 ho1 hNb hI hb
  obtain ⟨k, ps, nm, al, tx⟩ := m
  unfold sndM at hsn
  unfold markT mkV Sml at *
  simp only at hsn p1 p2 p3 hR hs HH ⊢
  by_cases k3 : k = 3
  · subst k3
    rw [if_pos rfl] at hsn ⊢
    simp only [Bool.and_eq_true] at hsn
    have CE := Lib.hid fun W => escaped_any tx hs.2.1 hsn.2 W
    clear hs hsn hR
    go_enter Tryd.func15, Tryd.ntmps15
    go_upto_region 1 with fail
    generalize (w.alloc (.cells #[.int .i64 3, .int .i64 ps, .string (bytesOf nm), .slice A al.length c, .string (bytesOf tx)] 31)) = W at HH ⊢
    obtain ⟨n0, n2, n3, n4⟩ := BoxM.cells HH.out.1
    go_wp2_with (first
      | (go_at_call 26; refine (CE.out _).mono ?_; rintro e W2 ⟨rfl, hb2⟩)
      | (go_at_call 25; refine (wstr_any (bld_keep HH.out.2.1 hb2) (HH.out.2.2.1.trans hb2) _ _ rfl (by omega)).mono ?_; rintro e W3 ⟨rfl, hI3, hb3, ho3⟩))
    (try simp only [Exit.inBlock, Exit.then]); refine bodyPost_ret (results_none rfl _ _ _) rfl ?_
    exact ⟨rfl, hI3, hb3, (HH.out.2.2.2.1.trans (oth_bel hb2)).trans ho3⟩
  have e3 : (k == 3) = false := by simpa using k3
  rw [if_neg k3] at hsn ⊢
  by_cases k2 : k = 2
  · subst k2
    rw [if_pos rfl] at hsn ⊢
    clear hs hsn hR k3 e3
    have ES := Lib.hid (show (⟨#[60, 47]⟩ : ByteArray) ++ bytesOf nm ++ (⟨#[62]⟩ : ByteArray) = bytesOf (60 :: 47 :: (nm ++ [62])) from by
      rw [show (⟨#[60, 47]⟩ : ByteArray) = bytesOf [60, 47] from rfl, show (⟨#[62]⟩ : ByteArray) = bytesOf [62] from rfl, bytes_app, bytes_app]
      rfl)
    have hz : (bytesOf nm).size = nm.length := bytesOf_size nm
    go_enter Tryd.func15, Tryd.ntmps15
    go_upto_region 1 with fail
    generalize (w.alloc (.cells #[.int .i64 2, .int .i64 ps, .string (bytesOf nm), .slice A al.length c, .string (bytesOf tx)] 31)) = W at HH ⊢
    obtain ⟨n0, n2, n3, n4⟩ := BoxM.cells HH.out.1
    go_wp2_with (go_at_call 25; refine (wstr_any HH.out.2.1 HH.out.2.2.1 _ _ ES.out (by simp only [List.length_cons, List.length_append, List.length_nil]; omega)).mono ?_; rintro e W3 ⟨rfl, hI3, hb3, ho3⟩)
    (try simp only [Exit.inBlock, Exit.then]); refine bodyPost_ret (results_none rfl _ _ _) rfl ?_
    exact ⟨rfl, hI3, hb3, HH.out.2.2.2.1.trans ho3⟩
  have e2 : (k == 2) = false := by simpa using k2
  rw [if_neg k2] at hsn ⊢
  have k14 : k = 1 ∨ k = 4 := by
    by_cases hk : k = 1 ∨ k = 4
    · exact hk
    · rw [if_neg hk] at hsn; cases hsn
  rw [if_pos k14] at hsn
  simp only [Bool.and_eq_true] at hsn
  have HA := Lib.hid hsn.2
  obtain ⟨_, _, hs3, hs4⟩ := hs
  have HS4 := Lib.hid hs4
  have HK := Lib.hid k14
  have ali : (al.length : Int) ≤ 1048576 := by omega
  clear hsn k3 k2 k14 hs4
  have ES := Lib.hid (show (⟨#[60]⟩ : ByteArray) ++ bytesOf nm = bytesOf (60 :: nm) from by
    rw [show (⟨#[60]⟩ : ByteArray) = bytesOf [60] from rfl, bytes_app]
    rfl)
  have hz : (bytesOf nm).size = nm.length := bytesOf_size nm
  have RR := Lib.hid fun W (hW : Bel w0 W) => hR.keep hW
  clear hR
  go_enter Tryd.func15, Tryd.ntmps15
  go_upto_region 1 with fail
  generalize (w.alloc (.cells #[.int .i64 k, .int .i64 ps, .string (bytesOf nm), .slice A al.length c, .string (bytesOf tx)] 31)) = W at HH ⊢
  generalize w.heap.size = N at HH ⊢
  obtain ⟨n0, n2, n3, n4⟩ := BoxM.cells HH.out.1
  go_upto_region 7 with (go_at_call 25; refine (wstr_any HH.out.2.1 HH.out.2.2.1 _ _ ES.out (by simp only [List.length_cons]; omega)).mono ?_; rintro e W2 ⟨rfl, hI2, hb2, ho2⟩)
  have BX2 := Lib.hid (BoxM.oth HH.out.1 ho2 HH.out.2.2.2.2)
  have OO := Lib.hid (HH.out.2.2.2.1.trans ho2)
  clear n0 n2 n3 n4 ho2
  obtain ⟨n0, n2, n3, n4⟩ := BoxM.cells BX2.out
  have HI2 := Lib.hid hI2
  have HB2 := Lib.hid hb2
  clear hI2 hb2
  go_wp2
  go_loopg [31] al.length (fun g i wr => ∃ j : Nat, i = .int .i64 j ∧ j ≤ al.length ∧ Hid (g = al.length - j) ∧ Hid (Bld w0 b (l ++ 60 :: (nm ++ (al.take j).flatMap attT)) wr) ∧ Hid (Bel w0 wr) ∧ Hid (Oth b w wr) ∧ Hid (BoxM wr N ⟨k, ps, nm, al, tx⟩ A c))
  case atStart => exact ⟨0, rfl, Nat.zero_le _, rfl, (show Bld w0 b (l ++ 60 :: (nm ++ (al.take 0).flatMap attT)) W2 from by have := HI2.out; simpa using this), HB2.out, OO.out, BX2.out⟩
  case round =>
    clear n0 n2 n3 n4
    obtain ⟨j, rfl, hj, hg, hI, hb, ho, hBx⟩ := hrel
    obtain ⟨n0, n2, n3, n4⟩ := BoxM.cells hBx.out
    simp only at n0 n2 n3 n4
    by_cases hlt : j < al.length
    · obtain ⟨a, ha⟩ : ∃ a, al[j]? = some a := ⟨_, List.getElem?_eq_getElem hlt⟩
      have hsm := HS4.out a (List.mem_of_getElem? ha)
      have hga : goodL a.2 = true := attsOk_good HA.out a (List.mem_of_getElem? ha)
      obtain ⟨b3, o3, rfl, hlt3, q0, q1⟩ := ats_at (RR.out wr hb.out) ha
      have i1 : (j : Int) < al.length := by omega
      have i2 : (0 : Int) ≤ (j : Int) := by omega
      have FM := Lib.hid (show (al.take (j + 1)).flatMap attT = (al.take j).flatMap attT ++ attT a from by rw [take_snoc ha, List.flatMap_append]; simp)
      have LN := Lib.hid (show ((al.take j).flatMap attT).length ≤ 7696630087680 from by
        have h1 : al.flatMap attT = (al.take j).flatMap attT ++ (al.drop j).flatMap attT := by rw [← List.flatMap_append, List.take_append_drop]
        have h2 := congrArg List.length h1
        rw [List.length_append] at h2
        omega)
      obtain ⟨x, y⟩ := a
      simp only at q0 q1 hga
      unfold AtSml at hsm
      simp only at hsm
      have CE := Lib.hid fun W => escaped_any y hsm.2 hga W
      have EL := Lib.hid (escL_len y)
      have ES2 := Lib.hid (show (⟨#[32]⟩ : ByteArray) ++ bytesOf x ++ (⟨#[61, 34]⟩ : ByteArray) ++ bytesOf (escL y) ++ (⟨#[34]⟩ : ByteArray) = bytesOf (attT (x, y)) from by
        rw [show (⟨#[32]⟩ : ByteArray) = bytesOf [32] from rfl, show (⟨#[61, 34]⟩ : ByteArray) = bytesOf [61, 34] from rfl, show (⟨#[34]⟩ : ByteArray) = bytesOf [34] from rfl, bytes_app, bytes_app, bytes_app, bytes_app]
        congr 1
        simp [attT])
      have hzx : (bytesOf x).size = x.length := bytesOf_size x
      have hzy : (bytesOf (escL y)).size = (escL y).length := bytesOf_size _
      have hba : BoxA (wr.alloc (.cells #[.string (bytesOf x), .string (bytesOf y)] 48)) wr.heap.size x y := heap_alloc_new wr _
      have hNb2 : wr.heap.size ≠ b := by have := bld_lt hI.out; omega
      have bel3 : Bel wr (wr.alloc (.cells #[.string (bytesOf x), .string (bytesOf y)] 48)) := (Bel.refl _).alloc _
      have H3 := Lib.hid (And.intro hba (And.intro hNb2 bel3))
      clear ha hga hba hNb2 bel3
      go_upto_region 10 with fail
      generalize (wr.alloc (.cells #[.string (bytesOf x), .string (bytesOf y)] 48)) = W3 at H3 ⊢
      generalize wr.heap.size = P at H3 ⊢
      clear q0 q1 n0 n2 n3 n4
      obtain ⟨d0, d1⟩ := BoxA.cells H3.out.1
      have hI3 : Bld w0 b (l ++ 60 :: (nm ++ (al.take j).flatMap attT)) W3 := bld_keep hI.out H3.out.2.2
      have hb3 : Bel w0 W3 := hb.out.trans H3.out.2.2
      have ho3 : Oth b w W3 := ho.out.trans (oth_bel H3.out.2.2)
      have hP : P < W3.heap.size := (Array.getElem?_eq_some_iff.1 H3.out.1).1
      refine wp_region_noPanic ?_
      refine wp_region_held (S := fun X => X.cell? ⟨P, 0, none⟩ = some (.string (bytesOf x)) ∧ X.cell? ⟨P, 1, none⟩ = some (.string (bytesOf y))) (by kernel_rfl) ?_
      have hX0 : Bel W3 { W3 with drawn := W3.drawn + 1 } := (Bel.refl W3).drew
      have oX0 : Oth b W3 { W3 with drawn := W3.drawn + 1 } := oth_bel hX0
      generalize { W3 with drawn := W3.drawn + 1 } = X0 at hX0 oX0 ⊢
      replace d0 := (hX0.cells _ _ hP).trans d0
      replace d1 := (hX0.cells _ _ hP).trans d1
      refine wpAnyH_take (i := 0) (oi := { dst := some 35, op := Op.move (Operand.tmp 0), type := 39, pos := "mark.go:80", after := #[], guard := none }) (v := .pointer (some ⟨b, 0, none⟩)) rfl (by kernel_rfl) (by kernel_rfl) (by kernel_rfl) (fun _ _ _ h => h) (.inl ⟨by rfl, fun X hS => by
          obtain ⟨k0, k1⟩ := hS
          go_simp; first | done | with_reducible rfl | (have := EL.out; omega) | rfl⟩) ⟨d0, d1⟩ ?_
      (try simp only [Act.put, List.setIfInBounds_toArray, List.set_cons_zero, List.set_cons_succ])
      refine wpAnyH_take (i := 1) (oi := { dst := some 36, op := Op.fieldAddr 48 (Operand.tmp 5) 0, type := 0, pos := "mark.go:80", after := #[], guard := none }) (v := .pointer (some ⟨P, 0, none⟩)) rfl (by kernel_rfl) (by kernel_rfl) (by kernel_rfl) (fun _ _ _ h => h) (.inl ⟨by rfl, fun X hS => by
          obtain ⟨k0, k1⟩ := hS
          go_simp; first | done | with_reducible rfl | (have := EL.out; omega) | rfl⟩) ⟨d0, d1⟩ ?_
      (try simp only [Act.put, List.setIfInBounds_toArray, List.set_cons_zero, List.set_cons_succ])
      refine wpAnyH_take (i := 2) (oi := { dst := some 37, op := Op.load 9 (Operand.tmp 36), type := 9, pos := "mark.go:80", after := #[{ on := 1, ground := Ground.data }], guard := none }) (v := .string (bytesOf x)) rfl (by kernel_rfl) (by kernel_rfl) (by kernel_rfl) (fun _ _ _ h => h) (.inl ⟨by rfl, fun X hS => by
          obtain ⟨k0, k1⟩ := hS
          go_simp; first | done | with_reducible rfl | (have := EL.out; omega) | rfl⟩) ⟨d0, d1⟩ ?_
      (try simp only [Act.put, List.setIfInBounds_toArray, List.set_cons_zero, List.set_cons_succ])
      refine wpAnyH_take (i := 3) (oi := { dst := some 38, op := Op.binOp BinOp.add 9 (Operand.const (Value.string { data := #[32] })) (Operand.tmp 37) 9, type := 9, pos := "mark.go:80", after := #[{ on := 2, ground := Ground.data }], guard := none }) (v := .string ((⟨#[32]⟩ : ByteArray) ++ bytesOf x)) rfl (by kernel_rfl) (by kernel_rfl) (by kernel_rfl) (fun _ _ _ h => h) (.inl ⟨by rfl, fun X hS => by
          obtain ⟨k0, k1⟩ := hS
          go_simp; first | done | with_reducible rfl | (have := EL.out; omega) | rfl⟩) ⟨d0, d1⟩ ?_
      (try simp only [Act.put, List.setIfInBounds_toArray, List.set_cons_zero, List.set_cons_succ])
      refine wpAnyH_take (i := 4) (oi := { dst := some 39, op := Op.binOp BinOp.add 9 (Operand.tmp 38) (Operand.const (Value.string { data := #[61, 34] })) 9, type := 9, pos := "mark.go:80", after := #[{ on := 3, ground := Ground.data }], guard := none }) (v := .string ((⟨#[32]⟩ : ByteArray) ++ bytesOf x ++ (⟨#[61, 34]⟩ : ByteArray))) rfl (by kernel_rfl) (by kernel_rfl) (by kernel_rfl) (fun _ _ _ h => h) (.inl ⟨by rfl, fun X hS => by
          obtain ⟨k0, k1⟩ := hS
          go_simp; first | done | with_reducible rfl | (have := EL.out; omega) | rfl⟩) ⟨d0, d1⟩ ?_
      (try simp only [Act.put, List.setIfInBounds_toArray, List.set_cons_zero, List.set_cons_succ])
      refine wpAnyH_take (i := 5) (oi := { dst := some 40, op := Op.fieldAddr 48 (Operand.tmp 5) 1, type := 0, pos := "mark.go:80", after := #[], guard := none }) (v := .pointer (some ⟨P, 1, none⟩)) rfl (by kernel_rfl) (by kernel_rfl) (by kernel_rfl) (fun _ _ _ h => h) (.inl ⟨by rfl, fun X hS => by
          obtain ⟨k0, k1⟩ := hS
          go_simp; first | done | with_reducible rfl | (have := EL.out; omega) | rfl⟩) ⟨d0, d1⟩ ?_
      (try simp only [Act.put, List.setIfInBounds_toArray, List.set_cons_zero, List.set_cons_succ])
      refine wpAnyH_take (i := 6) (oi := { dst := some 41, op := Op.load 9 (Operand.tmp 40), type := 9, pos := "mark.go:80", after := #[{ on := 5, ground := Ground.data }], guard := none }) (v := .string (bytesOf y)) rfl (by kernel_rfl) (by kernel_rfl) (by kernel_rfl) (fun _ _ _ h => h) (.inl ⟨by rfl, fun X hS => by
          obtain ⟨k0, k1⟩ := hS
          go_simp; first | done | with_reducible rfl | (have := EL.out; omega) | rfl⟩) ⟨d0, d1⟩ ?_
      (try simp only [Act.put, List.setIfInBounds_toArray, List.set_cons_zero, List.set_cons_succ])
      refine wpAnyH_all (rs := [7]) (by kernel_rfl) (by simp) ?_
      intro i hi
      simp only [List.mem_cons, List.not_mem_nil, or_false] at hi
      subst hi
      refine wpOp_enter (o := { dst := some 42, op := Op.call { callee := Callee.value (Operand.func 26), args := #[Operand.tmp 41], argTypes := #[9] }, type := 9, pos := "mark.go:80", after := #[{ on := 6, ground := Ground.data }], guard := none }) (f := 26) (args := #[.string (bytesOf y)]) (R := fun v X => v = .string (bytesOf (escL y)) ∧ Bel X0 X) rfl (by rfl) (by go_simp; first | done | with_reducible rfl | rfl) ((CE.out X0).mono fun e X h => ⟨_, h.1, rfl, h.2⟩) ?_
      rintro _ X1 ⟨rfl, hX1⟩
      have zP : P < X0.heap.size := Nat.lt_of_lt_of_le hP hX0.size
      replace d0 := (hX1.cells _ _ zP).trans d0
      replace d1 := (hX1.cells _ _ zP).trans d1
      refine ⟨⟨d0, d1⟩, ?_⟩
      (try simp only [Act.put, List.setIfInBounds_toArray, List.set_cons_zero, List.set_cons_succ])
      refine wpAnyH_take (i := 8) (oi := { dst := some 43, op := Op.binOp BinOp.add 9 (Operand.tmp 39) (Operand.tmp 42) 9, type := 9, pos := "mark.go:80", after := #[{ on := 4, ground := Ground.data }, { on := 7, ground := Ground.data }], guard := none }) (v := .string ((⟨#[32]⟩ : ByteArray) ++ bytesOf x ++ (⟨#[61, 34]⟩ : ByteArray) ++ bytesOf (escL y))) rfl (by kernel_rfl) (by kernel_rfl) (by kernel_rfl) (fun _ _ _ h => h) (.inl ⟨by rfl, fun X hS => by
          obtain ⟨k0, k1⟩ := hS
          go_simp; first | done | with_reducible rfl | (have := EL.out; omega) | rfl⟩) ⟨d0, d1⟩ ?_
      (try simp only [Act.put, List.setIfInBounds_toArray, List.set_cons_zero, List.set_cons_succ])
      refine wpAnyH_take (i := 9) (oi := { dst := some 44, op := Op.binOp BinOp.add 9 (Operand.tmp 43) (Operand.const (Value.string { data := #[34] })) 9, type := 9, pos := "mark.go:80", after := #[{ on := 8, ground := Ground.data }], guard := none }) (v := .string ((⟨#[32]⟩ : ByteArray) ++ bytesOf x ++ (⟨#[61, 34]⟩ : ByteArray) ++ bytesOf (escL y) ++ (⟨#[34]⟩ : ByteArray))) rfl (by kernel_rfl) (by kernel_rfl) (by kernel_rfl) (fun _ _ _ h => h) (.inl ⟨by rfl, fun X hS => by
          obtain ⟨k0, k1⟩ := hS
          go_simp; first | done | with_reducible rfl | (have := EL.out; omega) | rfl⟩) ⟨d0, d1⟩ ?_
      (try simp only [Act.put, List.setIfInBounds_toArray, List.set_cons_zero, List.set_cons_succ])
      refine wpAnyH_all (rs := [10]) (by kernel_rfl) (by simp) ?_
      intro i hi
      simp only [List.mem_cons, List.not_mem_nil, or_false] at hi
      subst hi
      refine wpOp_enter (o := { dst := some 45, op := Op.call { callee := Callee.value (Operand.func 25), args := #[Operand.tmp 35, Operand.tmp 44], argTypes := #[39, 9] }, type := 56, pos := "mark.go:80", after := #[{ on := 0, ground := Ground.data }, { on := 9, ground := Ground.data }, { on := 7, ground := Ground.chain }], guard := none }) (f := 25) (args := #[.pointer (some ⟨b, 0, none⟩), .string ((⟨#[32]⟩ : ByteArray) ++ bytesOf x ++ (⟨#[61, 34]⟩ : ByteArray) ++ bytesOf (escL y) ++ (⟨#[34]⟩ : ByteArray))]) (R := fun v X => Bld w0 b ((l ++ 60 :: (nm ++ (al.take j).flatMap attT)) ++ attT (x, y)) X ∧ Bel w0 X ∧ Oth b X1 X) rfl (by rfl) (by go_simp; first | done | with_reducible rfl | rfl) ((wstr_any (bld_keep hI3 (hX0.trans hX1)) (hb3.trans (hX0.trans hX1)) (attT (x, y)) _ ES2.out (by have h1 := LN.out; have h2 := EL.out; simp only [attT, List.length_cons, List.length_append, List.length_nil]; omega)).mono fun e X h => ⟨_, h.1, h.2⟩) ?_
      rintro v X2 ⟨hI4, hb4, ho4⟩
      have d02 : X2.cell? ⟨P, 0, none⟩ = some (.string (bytesOf x)) ∧ X2.cell? ⟨P, 1, none⟩ = some (.string (bytesOf y)) := BoxA.cells ((H3.out.1.keep (hX0.trans hX1)).oth ho4 H3.out.2.1)
      refine ⟨d02, ?_⟩
      (try simp only [Act.put, List.setIfInBounds_toArray, List.set_cons_zero, List.set_cons_succ])
      refine wpAnyH_done (by kernel_rfl) ?_ _
      refine NoPanic.normal ?_
      have oF : Oth b w X2 := (ho3.trans (oth_bel (hX0.trans hX1))).trans ho4
      have hB2 : BoxM X2 N ⟨k, ps, nm, al, tx⟩ _ c := ((hBx.out.keep H3.out.2.2).keep (hX0.trans hX1)).oth ho4 HH.out.2.2.2.2
      go_wp2_with fail
      go_roundg (al.length - (j + 1))
      case rel =>
        refine ⟨j + 1, rfl, by omega, Lib.hid rfl, ?_, Lib.hid hb4, Lib.hid oF, Lib.hid hB2⟩
        refine Lib.hid (show Bld w0 b (l ++ 60 :: (nm ++ (al.take (j + 1)).flatMap attT)) X2 from ?_)
        rw [FM.out]
        simpa [List.append_assoc] using hI4
      all_goals first | (have := hg.out; omega) | skip
    · obtain rfl : j = al.length := by omega
      have FM := Lib.hid (show al.take al.length = al from List.take_length)
      have LN := Lib.hid p3
      rcases HK.out with rfl | rfl
      · go_wp2_with (go_at_call 25; refine (wstr_any hI.out hb.out [62] _ rfl (by rw [FM.out]; simp only [List.length_cons, List.length_append, List.length_nil]; have := LN.out; omega)).mono ?_; rintro e W3 ⟨rfl, hI3, hb3, ho3⟩)
        go_end0
        refine ⟨rfl, ?_, hb3, ho.out.trans ho3⟩
        rw [FM.out] at hI3
        simpa [List.append_assoc] using hI3
      · go_wp2_with (first
          | (go_at_call 25; have _u := hI3; refine (wstr_any hI3 hb3 [62] _ rfl (by rw [FM.out]; simp only [List.length_cons, List.length_append, List.length_nil]; have := LN.out; omega)).mono ?_; rintro e W4 ⟨rfl, hI4, hb4, ho4⟩)
          | (go_at_call 25; refine (wstr_any hI.out hb.out [47] _ rfl (by rw [FM.out]; simp only [List.length_cons, List.length_append, List.length_nil]; have := LN.out; omega)).mono ?_; rintro e W3 ⟨rfl, hI3, hb3, ho3⟩))
        go_end0
        refine ⟨rfl, ?_, hb4, (ho.out.trans ho3).trans ho4⟩
        rw [FM.out] at hI4
        simpa [List.append_assoc] using hI4
end
end Go.Proofs.YtobdokeklcdpoaaDoor
