import Derived.Test.YtjckpkamhdbcnaaGreatDoorZd
import Derived.Test.YtjckpkamhdbcnaaGreatDoorZe
namespace Go.Proofs.YtjckpkamhdbcnaaGreatDoor
set_option maxRecDepth 100000
set_option maxHeartbeats 64000000
set_option linter.unusedSimpArgs false
set_option linter.unusedVariables false
open Go.RowKit
structure Bnd where
 nm : ByteArray
 v : Val
instance : Inhabited Bnd := ⟨⟨⟨#[]⟩, ⟨0, 0, 0, ⟨#[]⟩, 0⟩⟩⟩
abbrev Bnd.val (x : Bnd) : Value := .agg #[.string x.nm, .int .i64 x.v.kind, .int .i64 x.v.n, .int .i64 x.v.scale, .string x.v.text, .int .i64 x.v.num]
abbrev BndAt (w : World) (b o : Nat) (x : Bnd) : Prop :=
 w.cell? ⟨b, o, none⟩ = some (.string x.nm) /\ w.cell? ⟨b, o + 1, none⟩ = some (.int .i64 x.v.kind) /\ w.cell? ⟨b, o + 2, none⟩ = some (.int .i64 x.v.n) /\ w.cell? ⟨b, o + 3, none⟩ = some (.int .i64 x.v.scale) /\
  w.cell? ⟨b, o + 4, none⟩ = some (.string x.v.text) /\ w.cell? ⟨b, o + 5, none⟩ = some (.int .i64 x.v.num)
theorem BndAt.keep {w w' : World} {b o : Nat} {x : Bnd} (h : BndAt w b o x) (hb : Bel w w') (hlt : b < w.heap.size) : BndAt w' b o x := by
 simp only [BndAt, hb.cells _ _ hlt]
 exact h
def Bnds (w : World) (A : Option Addr) (l : List Bnd) : Prop :=
 0 < l.length -> ∃ b off, A = some ⟨b, off, none⟩ /\ b < w.heap.size /\ ∀ i x, l[i]? = some x -> BndAt w b (off + i * 6) x
theorem Bnds.keep {w w' : World} {A : Option Addr} {l : List Bnd} (h : Bnds w A l) (hb : Bel w w') : Bnds w' A l := fun h0 => by
 obtain ⟨b, off, hA, hlt, hc⟩ := h h0
 exact ⟨b, off, hA, lL hlt hb.size, fun i v hv => (hc i v hv).keep hb hlt⟩
def Bnd.Fit (x : Bnd) : Prop := x.v.text.size <= 9223372036854775807
def fstI (p : Bnd -> Bool) : List Bnd -> Nat -> Int
 | [], _ => -1
 | x :: t, k => if p x = true then (k : Int) else fstI p t (k + 1)
theorem Qo3 (p : Bnd -> Bool) : ∀ (l : List Bnd) (k : Nat), decide (fstI p l k >= 0) = l.any p
 | [], _ => rfl
 | x :: t, k => by
  unfold fstI
  cases h : p x with
  | true => rw [iP rfl]; simp [h]
  | false => rw [iN (by decide), Qo3 p t (k + 1)]; simp [h]
theorem Qhf (p : Bnd -> Bool) : ∀ (l : List Bnd) (k : Nat), (l.find? p = none /\ fstI p l k = -1) \/ ∃ x j, l.find? p = some x /\ fstI p l k = ((k + j : Nat) : Int) /\ l[j]? = some x
 | [], _ => .inl ⟨rfl, rfl⟩
 | x :: t, k => by
  unfold fstI
  cases h : p x with
  | true => exact .inr ⟨x, 0, by simp [List.find?_cons, h], by simp, rfl⟩
  | false =>
   rw [iN (by decide)]
   rcases Qhf p t (k + 1) with ⟨a, b⟩ | ⟨y, j, a, b, c⟩
   ·exact .inl ⟨by simp [List.find?_cons, h, a], b⟩
   exact .inr ⟨y, j + 1, by simp [List.find?_cons, h, a], by rw [b]; congr 1; omega, by simpa using c⟩
def PredB (g : Nat) (lb : Array Value) (p : Bnd -> Bool) (w : World) : Prop :=
 ∀ (W : World) (x : Bnd), Bel w W -> x.Fit -> Calls Tryz.prog g (#[x.val] ++ lb) W fun e w' => e = .returned (.bool (p x)) /\ Bel W w'
theorem Qky (l : List Bnd) (A : Option Addr) (c g : Nat) (lb : Array Value) (p : Bnd -> Bool) (eg : ∀ args w, (callFunc g args).run Tryz.prog w = .ok (.enter g args) w) (w : World) (hp : PredB g lb p w) (hl : Bnds w A l) (hn : l.length <= 9223372036854775807) (hs : ∀ s ∈ l, s.Fit) :
  Calls Tryz.prog 45 #[.slice A l.length c, .func (.func g) #[] lb] w fun e w' => e = .returned (.int .i64 (fstI p l 0)) /\ Bel w w' := by
 obtain ⟨R, hR⟩ : ∃ R, R = fstI p l 0 := ⟨_, rfl⟩
 rw [← hR]
 have RR := Hd hR
 have HP := Hd hp
 clear hR hp
 have hli : (l.length : Int) <= 9223372036854775807 := by omega
 go_enter Tryz.func45, Tryz.ntmps45
 go_wp2
 go_loopg [5, 8] l.length (fun g _ i wr => ∃ k : Nat, i = .int .i64 k /\ k <= l.length /\ Hid (R = fstI p (l.drop k) k /\ g = l.length - k) /\ Bel w wr)
 case atStart => exact ⟨0, rfl, Nat.zero_le _, ⟨RR.out, rfl⟩, Bel.refl _⟩
 case round =>
  obtain ⟨k, rfl, hk, hh, hb⟩ := hrel
  by_cases hlt : k < l.length
  ·obtain ⟨b, off, rfl, hltb, hat⟩ := hl (by omega)
   obtain ⟨s, hsk⟩ : ∃ s, l[k]? = some s := ⟨_, gE hlt⟩
   have hcell := (hat k s hsk).keep hb hltb
   have hcall := HP.out wr s hb (hs s (List.mem_of_getElem? hsk))
   have hdr : l.drop k = s :: l.drop (k + 1) := by rw [List.drop_eq_getElem_cons hlt]; simp [gE hlt] at hsk; rw [hsk]
   have RN := Hd (show R = (if p s = true then (k : Int) else fstI p (l.drop (k + 1)) (k + 1)) from by rw [hh.out.1, hdr]; rfl)
   have i1 : (k : Int) < l.length := by omega
   have i2 : (0 : Int) <= (k : Int) := by omega
   clear hl hat hsk hdr hs
   obtain ⟨nm, vk, vn, vs, vt, vm⟩ := s
   cases hq : p ⟨nm, ⟨vk, vn, vs, vt, vm⟩⟩ with
   | true =>
    rw [hq] at hcall
    have RN := Hd (show R = (k : Int) from by rw [RN.out, hq]; rfl)
    go_wp2_with (go_at_fn g; refine hcall.mono ?_; rintro e w' ⟨rfl, hb'⟩)
    go_ret
    exact ⟨by rw [RN.out]; rfl, hb.trans hb'⟩
   | false =>
    rw [hq] at hcall
    have RN := Hd (show R = fstI p (l.drop (k + 1)) (k + 1) from by rw [RN.out, hq]; rfl)
    go_wp2_with (go_at_fn g; refine hcall.mono ?_; rintro e w' ⟨rfl, hb'⟩)
    go_roundg (l.length - (k + 1))
    case measure => have := hh.out.2; omega
    case rel => exact ⟨k + 1, by go_num, by omega, ⟨RN.out, rfl⟩, hb.trans hb'⟩
  obtain rfl : k = l.length := by omega
  have h := hh.out.1
  rw [List.drop_length] at h
  obtain rfl : R = -1 := h
  go_wp2
  go_ret
  exact ⟨rfl, hb⟩
theorem Qo4 (l : List Bnd) (A : Option Addr) (c g : Nat) (lb : Array Value) (p : Bnd -> Bool) (eg : ∀ args w, (callFunc g args).run Tryz.prog w = .ok (.enter g args) w) (w : World) (hp : PredB g lb p w) (hl : Bnds w A l) (hn : l.length <= 9223372036854775807) (hs : ∀ s ∈ l, s.Fit) :
  Calls Tryz.prog 24 #[.slice A l.length c, .func (.func g) #[] lb] w fun e w' => e = .returned (.bool (l.any p)) /\ Bel w w' := by
 have C := Hd (Qky l A c g lb p eg w hp hl hn hs)
 have h1 := Qo3 p l 0
 have F := Hd h1
 generalize fstI p l 0 = r at C F h1
 clear hp hl hs eg h1
 go_enter Tryz.func24, Tryz.ntmps24
 go_wp2_with (go_at_call 45; refine C.out.mono ?_; rintro e W1 ⟨rfl, hb1⟩)
 go_ret
 exact ⟨by rw [← F.out]; rfl, hb1⟩
def nmIs (s : ByteArray) (x : Bnd) : Bool := x.nm.data.toList == s.data.toList
theorem Qwi : ∀ args w, (callFunc 21 args).run Tryz.prog w = .ok (.enter 21 args) w := enters_of Tryz.func21 (by kernel_rfl) rfl
theorem Qxb : ∀ args w, (callFunc 75 args).run Tryz.prog w = .ok (.enter 75 args) w := enters_of Tryz.func75 (by kernel_rfl) rfl
theorem Qrn (w : World) : PredB 21 #[] (fun x => !vsnd x.v) w := fun W x hb hx => by
 have C := Hd (fun w => Qbs x.v hx w)
 obtain ⟨q, hq⟩ : ∃ q, q = vsnd x.v := ⟨_, rfl⟩
 show Calls Tryz.prog 21 #[x.val] W fun e w' => e = .returned (.bool (!vsnd x.v)) /\ Bel W w'
 rw [← hq] at C ⊢
 clear hq hx
 obtain ⟨nm, vk, vn, vs, vt, vm⟩ := x
 go_enter Tryz.func21, Tryz.ntmps21
 go_wp2_with (go_at_call 22; refine (C.out _).mono ?_; rintro e W1 ⟨rfl, hb1⟩)
 go_ret
 exact ⟨rfl, ((Bel.refl _).alloc _).trans hb1⟩
theorem Quw (s : ByteArray) (B : Nat) (w : World) (hB : B < w.heap.size) (hc : w.cell? ⟨B, 0, none⟩ = some (.string s)) : PredB 75 #[.pointer (some ⟨B, 0, none⟩)] (nmIs s) w := fun W x hb hx => by
 have c0 := (hb.cells _ 0 hB).trans hc
 have hBW := lL hB hb.size
 have hne : B ≠ W.heap.size := by omega
 show Calls Tryz.prog 75 #[x.val, .pointer (some ⟨B, 0, none⟩)] W fun e w' => e = .returned (.bool (nmIs s x)) /\ Bel W w'
 unfold nmIs
 rw [← ByteArray.toList_eq, ← ByteArray.toList_eq]
 clear hc hB
 obtain ⟨nm, vk, vn, vs, vt, vm⟩ := x
 go_enter Tryz.func75, Tryz.ntmps75
 go_wp2_with fail
 go_ret
 exact ⟨rfl, (Bel.refl _).alloc _⟩
theorem Qh8 (l : List Bnd) (A : Option Addr) (c : Nat) (s : ByteArray) (w : World) (hl : Bnds w A l) (hn : l.length <= 9223372036854775807) (hs : ∀ s ∈ l, s.Fit) :
  Calls Tryz.prog 46 #[.slice A l.length c, .string s] w fun e w' => e = .returned (.int .i64 (fstI (nmIs s) l 0)) /\ Bel w w' := by
 have C := Hd (fun W (hl : Bnds W A l) (hp : PredB 75 #[.pointer (some ⟨w.heap.size, 0, none⟩)] (nmIs s) W) => Qky l A c 75 #[.pointer (some ⟨w.heap.size, 0, none⟩)] (nmIs s) Qxb W hp hl hn hs)
 have HL := Hd hl
 clear hl hs
 go_enter Tryz.func46, Tryz.ntmps46
 go_wp2_with (go_at_call 45; refine (C.out _ (HL.out.keep ((Bel.refl w).alloc _)) (Quw s _ _ (by simp) (by simp [go_sem]))).mono ?_; rintro e W1 ⟨rfl, hb1⟩)
 go_ret
 exact ⟨rfl, ((Bel.refl _).alloc _).trans hb1⟩
end Go.Proofs.YtjckpkamhdbcnaaGreatDoor
