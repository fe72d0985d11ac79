import Derived.Test.YtjckpkamhdbcnaaGreatDoorZd
import Derived.Test.YtjckpkamhdbcnaaGreatDoorZba
import Derived.Test.YtjckpkamhdbcnaaGreatDoorZy
import Derived.Test.YtjckpkamhdbcnaaGreatDoorShelf
import Derived.Laws.Cover1
namespace Go.Proofs.YtjckpkamhdbcnaaGreatDoor
set_option maxRecDepth 100000
set_option maxHeartbeats 64000000
set_option linter.unusedSimpArgs false
set_option linter.unusedVariables false
attribute [local go_sem ↓] Qas Qau
open Go.RowKit
def vcmp (a b : Val) : Int :=
 if a.kind ≠ b.kind then Lib.compareInt a.kind b.kind else if a.kind = 1 then sgn (unt a.n a.scale) (unt b.n b.scale) else if a.kind = 2 then Lib.compareBytes a.text.data.toList b.text.data.toList else Lib.compareInt a.num b.num
def allV (vs : List Val) : Bool := vs.all vsnd
def IdxPost (b : Bool) (w : World) (e : Ending) (w' : World) : Prop := ∃ r : Int, e = .returned (.int .i64 r) /\ decide (0 <= r) = b /\ Bel w w'
theorem Qh7 (v : Val) (hv : v.text.size <= 9223372036854775807) (w : World) : Calls Tryz.prog 96 #[v.val] w fun e w' => e = .returned (.bool (!vsnd v)) /\ Bel w w' := by
 have c := fun w => Qbs v hv w
 obtain ⟨b, hb⟩ : ∃ b, b = vsnd v := ⟨_, rfl⟩
 rw [← hb] at c
 have C := Hd c
 have HB := Hd hb
 clear c hb
 obtain ⟨k, n, s, t, m⟩ := v
 go_enter Tryz.func96, Tryz.ntmps96
 go_wp2_with (go_at_call 22; refine (C.out _).mono ?_; rintro e W1 ⟨rfl, hb1⟩)
 go_ret
 exact ⟨by (rw [← HB.out]) <;> rfl, ((Bel.refl _).alloc _).trans hb1⟩
theorem Qjl (vs : List Val) (A : Option Addr) (c : Nat) (w : World) (hv : Vals w A vs) (hl : vs.length <= maxLen) (ho : ∀ v ∈ vs, v.text.size <= 9223372036854775807) :
  Calls Tryz.prog 144 #[.slice A vs.length c, .func (.func 96) #[] #[]] w (IdxPost (!allV vs) w) := by
 unfold maxLen at hl
 have hli : (vs.length : Int) <= 9223372036854775807 := by omega
 have HO := Hd ho
 clear ho
 go_enter Tryz.func144, Tryz.ntmps144
 go_wp2_with fail
 go_loopg [8] vs.length (fun g i wr => ∃ k : Nat, i = .int .i64 k /\ k <= vs.length /\ Hid (allV (vs.take k) = true /\ g = vs.length - k) /\ Bel w wr)
 case atStart => exact ⟨0, rfl, Nat.zero_le _, ⟨rfl, rfl⟩, Bel.refl _⟩
 case round =>
  obtain ⟨k, rfl, hk, hh, hb⟩ := hrel
  by_cases hp : k < vs.length
  ·obtain ⟨b, off, rfl, hlt, hat⟩ := hv (by omega)
   obtain ⟨v, hvk⟩ : ∃ v, vs[k]? = some v := ⟨_, gE hp⟩
   have ha := (hat k v hvk).keep hb hlt
   have hmem : v ∈ vs := List.mem_of_getElem? hvk
   have c := fun w => Qh7 v (HO.out v hmem) w
   have hst : allV (vs.take (k + 1)) = (allV (vs.take k) && vsnd v) := by
    unfold allV
    rw [List.take_add_one, hvk, List.all_append]
    simp
   obtain ⟨q, hq⟩ : ∃ q, q = vsnd v := ⟨_, rfl⟩
   rw [← hq] at c hst
   have C := Hd c
   have HS := Hd (show allV (vs.take (k + 1)) = q by rw [hst, hh.out.1]; rfl)
   have HQ := Hd (And.intro hq hmem)
   obtain ⟨vk, vn, vsc, vt, vm⟩ := v
   obtain ⟨a0, a1, a2, a3, a4⟩ := ha
   have i1 : (k : Int) < vs.length := by omega
   clear hv hat hvk c hst hq hmem
   cases q with
   | false =>
    have L := Hd (show allV vs = false by
     unfold allV
     rw [List.all_eq_false]
     exact ⟨_, HQ.out.2, by rw [← HQ.out.1]; decide⟩)
    go_wp2_with (go_at_call 96; refine (C.out _).mono ?_; rintro e W1 ⟨rfl, hb1⟩)
    go_ret
    exact ⟨_, rfl, by rw [L.out]; exact dT (by simp), hb.trans hb1⟩
   | true =>
    go_wp2_with (go_at_call 96; refine (C.out _).mono ?_; rintro e W1 ⟨rfl, hb1⟩)
    go_roundg (vs.length - (k + 1))
    case measure => have := hh.out.2; omega
    case rel => exact ⟨k + 1, by go_num, by omega, ⟨HS.out, rfl⟩, hb.trans hb1⟩
  have L := Hd (show allV vs = true by
   have h := hh.out.1
   rw [List.take_of_length_le (by omega)] at h
   exact h)
  go_wp2_with fail
  go_ret
  exact ⟨_, rfl, by rw [L.out]; rfl, hb⟩
theorem Qf2 (vs : List Val) (A : Option Addr) (c : Nat) (w : World) (hv : Vals w A vs) (hl : vs.length <= maxLen) (ho : ∀ v ∈ vs, v.text.size <= 9223372036854775807) :
  Calls Tryz.prog 68 #[.slice A vs.length c] w fun e w' => e = .returned (.bool (allV vs)) /\ Bel w w' := by
 have ci := fun w hv => Qjl vs A c w hv hl ho
 obtain ⟨q, hq⟩ : ∃ q, q = allV vs := ⟨_, rfl⟩
 rw [← hq] at ci ⊢
 have CI := Hd ci
 have HV := Hd hv
 have CC := Hd (show ∀ w, Vals w A vs -> Calls Tryz.prog 95 #[.slice A vs.length c, .func (.func 96) #[] #[]] w fun e w' => e = .returned (.bool (!q)) /\ Bel w w' from fun w hv => by
  clear ci hq ho hl
  have HW := Hd hv
  clear hv
  go_enter Tryz.func95, Tryz.ntmps95
  go_wp2_with (go_at_call 144; refine (CI.out _ HW.out).mono ?_; rintro e W1 ⟨r, rfl, hr, hb1⟩)
  go_ret
  exact ⟨rfl, hb1⟩)
 clear ci hq ho hl hv
 go_enter Tryz.func68, Tryz.ntmps68
 go_wp2_with (go_at_call 95; refine (CC.out _ HV.out).mono ?_; rintro e W1 ⟨rfl, hb1⟩)
 go_ret
 exact ⟨by simp, hb1⟩
theorem Qg9 {k n s m : Int} {t : ByteArray} (hk : k ≠ 1 /\ k ≠ 2) (h : vsnd ⟨k, n, s, t, m⟩ = true) : t = ⟨#[]⟩ := by
 rcases kinds k with rfl | rfl | rfl | rfl | rfl | h5
 ·rw [vs0] at h
  simp only [bA, beq_iff_eq, Qa5] at h
  exact h.2.2.1
 ·exact absurd rfl hk.1
 ·exact absurd rfl hk.2
 ·rw [vs3] at h
  simp only [bA, beq_iff_eq, Qa5] at h
  exact h.2.2.1
 ·rw [vs4] at h
  simp only [bA, beq_iff_eq, Qa5] at h
  exact h.2.2.1
 rw [vsnd5 _ _ _ _ _ h5] at h; cases h
theorem Qos {n s m t : Int} (h1 : SndD n s) (h2 : SndD m t) : cmpV n s m t = .tuple #[.int .i64 (sgn (unt n s) (unt m t)), .int .i64 0] := iP ⟨h1, h2⟩
theorem Qot (a b : Val) (ha : vsnd a = true) (hb : vsnd b = true) (w : World) : Calls Tryz.prog 69 #[a.val, b.val] w fun e w' => e = .returned (.int .i64 (vcmp a b)) /\ Bel w w' := by
 obtain ⟨k, n, s, t, m⟩ := a
 obtain ⟨k', n', s', t', m'⟩ := b
 by_cases hk : k = k'
 ·subst hk
  have e0 : (k != k) = false := by simp
  by_cases h1 : k = 1
  ·subst h1
   have L := Hd (show vcmp ⟨1, n, s, t, m⟩ ⟨1, n', s', t', m'⟩ = sgn (unt n s) (unt n' s') from rfl)
   have c := fun w => Qup n s n' s' w
   rw [Qos (Qfh ha) (Qfh hb)] at c
   obtain ⟨z, hz⟩ : ∃ z, z = sgn (unt n s) (unt n' s') := ⟨_, rfl⟩
   rw [← hz] at c L
   have C := Hd c
   clear c hz ha hb e0
   go_enter Tryz.func69, Tryz.ntmps69
   go_wp2_with (go_at_call 98; refine (C.out _).mono ?_; rintro e W1 ⟨rfl, hb1⟩)
   go_ret
   exact ⟨by (rw [L.out]) <;> rfl, (((Bel.refl _).alloc _).alloc _).trans hb1⟩
  by_cases h2 : k = 2
  ·subst h2
   have L := Hd (show vcmp ⟨2, n, s, t, m⟩ ⟨2, n', s', t', m'⟩ = Lib.compareBytes t.data.toList t'.data.toList from rfl)
   have c := fun w => Tryz.strings_Compare t t' w
   obtain ⟨z, hz⟩ : ∃ z, z = Lib.compareBytes t.data.toList t'.data.toList := ⟨_, rfl⟩
   rw [← hz] at c L
   have C := Hd c
   clear c hz ha hb e0 h1
   go_enter Tryz.func69, Tryz.ntmps69
   go_wp2_with (go_at_call 99; refine (C.out _).mono ?_; rintro e W1 ⟨rfl, rfl⟩)
   go_ret
   exact ⟨by (rw [L.out]) <;> rfl, (((Bel.refl _).alloc _).alloc _)⟩
  have L := Hd (show vcmp ⟨k, n, s, t, m⟩ ⟨k, n', s', t', m'⟩ = Lib.compareInt m m' by
   unfold vcmp
   rw [iN (fun h => h rfl), iN h1, iN h2])
  have c := fun w => Tryz.cmp_Compare_int m m' w
  obtain ⟨z, hz⟩ : ∃ z, z = Lib.compareInt m m' := ⟨_, rfl⟩
  rw [← hz] at c L
  have C := Hd c
  have k1 : (k == 1) = false := by rw [bN]; exact h1
  have k2 : (k == 2) = false := by rw [bN]; exact h2
  clear c hz ha hb h1 h2
  go_enter Tryz.func69, Tryz.ntmps69
  go_wp2_with (go_at_call 97; refine (C.out _).mono ?_; rintro e W1 ⟨rfl, rfl⟩)
  go_ret
  exact ⟨by (rw [L.out]) <;> rfl, (((Bel.refl _).alloc _).alloc _)⟩
 have L := Hd (show vcmp ⟨k, n, s, t, m⟩ ⟨k', n', s', t', m'⟩ = Lib.compareInt k k' by unfold vcmp; rw [iP hk])
 have c := fun w => Tryz.cmp_Compare_int k k' w
 obtain ⟨z, hz⟩ : ∃ z, z = Lib.compareInt k k' := ⟨_, rfl⟩
 rw [← hz] at c L
 have C := Hd c
 have e0 : (k == k') = false := by rw [bN]; exact hk
 have e1 : (k != k') = true := by rw [bne, e0]; rfl
 clear c hz ha hb hk
 go_enter Tryz.func69, Tryz.ntmps69
 go_wp2_with (go_at_call 97; refine (C.out _).mono ?_; rintro e W1 ⟨rfl, rfl⟩)
 go_ret
 exact ⟨by (rw [L.out]) <;> rfl, (((Bel.refl _).alloc _).alloc _)⟩
def vcmpV (a b : Val) : Value := if vsnd a = true /\ vsnd b = true then .tuple #[.int .i64 (vcmp a b), .int .i64 0] else .tuple #[.int .i64 0, .int .i64 2]
theorem vals2 {w : World} {g : Nat} {a b : Val} (hb : g < w.heap.size) (h0 : w.cell? ⟨g, 0, none⟩ = some (.int .i64 a.kind)) (h1 : w.cell? ⟨g, 1, none⟩ = some (.int .i64 a.n)) (h2 : w.cell? ⟨g, 2, none⟩ = some (.int .i64 a.scale)) (h3 : w.cell? ⟨g, 3, none⟩ = some (.string a.text)) (h4 : w.cell? ⟨g, 4, none⟩ = some (.int .i64 a.num))
  (h5 : w.cell? ⟨g, 5, none⟩ = some (.int .i64 b.kind)) (h6 : w.cell? ⟨g, 6, none⟩ = some (.int .i64 b.n)) (h7 : w.cell? ⟨g, 7, none⟩ = some (.int .i64 b.scale)) (h8 : w.cell? ⟨g, 8, none⟩ = some (.string b.text)) (h9 : w.cell? ⟨g, 9, none⟩ = some (.int .i64 b.num)) : Vals w (some ⟨g, 0, none⟩) [a, b] := by
 intro _
 refine ⟨g, 0, rfl, hb, fun i v hv => ?_⟩
 match i, hv with
 | 0, hv =>
  simp at hv
  subst hv
  exact ⟨h0, h1, h2, h3, h4⟩
 | 1, hv =>
  simp at hv
  subst hv
  exact ⟨h5, h6, h7, h8, h9⟩
 | i + 2, hv => simp at hv
theorem Qbw (a b : Val) (ha : a.text.size <= 9223372036854775807) (hb : b.text.size <= 9223372036854775807) (w : World) : Calls Tryz.prog 38 #[a.val, b.val] w fun e w' => e = .returned (vcmpV a b) /\ Bel w w' := by
 have cs : ∀ (W : World) (g : Nat), Vals W (some ⟨g, 0, none⟩) [a, b] -> Calls Tryz.prog 68 #[.slice (some ⟨g, 0, none⟩) 2 2] W fun e w' => e = .returned (.bool (allV [a, b])) /\ Bel W w' := fun W g hv =>
  Qf2 [a, b] (some ⟨g, 0, none⟩) 2 W hv (by simp [maxLen]) (fun v hv => by
   rcases List.mem_cons.1 hv with rfl | hv
   ·exact ha
   rw [List.mem_singleton.1 hv]; exact hb)
 have hall : allV [a, b] = (vsnd a && vsnd b) := by simp [allV]
 rw [hall] at cs
 cases hs : (vsnd a && vsnd b) with
 | false =>
  have L := Hd (show vcmpV a b = .tuple #[.int .i64 0, .int .i64 2] from iN (fun h => by rw [h.1, h.2] at hs; cases hs))
  rw [hs] at cs
  have CS := Hd cs
  obtain ⟨k, n, s, t, m⟩ := a
  obtain ⟨k', n', s', t', m'⟩ := b
  clear cs hs hall ha hb
  go_enter Tryz.func38, Tryz.ntmps38
  go_wp2_with (go_at_call 68; with_reducible refine (CS.out _ _ ?hv2).mono ?_; (case hv2 => exact vals2 (by simp) (by simp [go_sem]) (by simp [go_sem]) (by simp [go_sem]) (by simp [go_sem]) (by simp [go_sem]) (by simp [go_sem]) (by simp [go_sem]) (by simp [go_sem]) (by simp [go_sem]) (by simp [go_sem])); rintro e W1 ⟨rfl, hb1⟩)
  go_ret2
  exact ⟨by (rw [L.out]) <;> rfl, ((((Bel.refl _).alloc _).alloc _).alloc _).trans hb1⟩
 | true =>
  have hh := Bool.and_eq_true_iff.1 hs
  have L := Hd (show vcmpV a b = .tuple #[.int .i64 (vcmp a b), .int .i64 0] from iP hh)
  rw [hs] at cs
  have CS := Hd cs
  have co := fun w => Qot a b hh.1 hh.2 w
  obtain ⟨z, hz⟩ : ∃ z, z = vcmp a b := ⟨_, rfl⟩
  rw [← hz] at co L
  have CO := Hd co
  obtain ⟨k, n, s, t, m⟩ := a
  obtain ⟨k', n', s', t', m'⟩ := b
  clear cs hs hall ha hb hh co hz
  go_enter Tryz.func38, Tryz.ntmps38
  go_wp2_with (first
   | (go_at_call 68; with_reducible refine (CS.out _ _ ?hv2).mono ?_; (case hv2 => exact vals2 (by simp) (by simp [go_sem]) (by simp [go_sem]) (by simp [go_sem]) (by simp [go_sem]) (by simp [go_sem]) (by simp [go_sem]) (by simp [go_sem]) (by simp [go_sem]) (by simp [go_sem]) (by simp [go_sem])); rintro e W1 ⟨rfl, hb1⟩; obtain ⟨hc, hf⟩ := bcell hb1)
   | (go_at_call 69; refine (CO.out _).mono ?_; rintro e W2 ⟨rfl, hb2⟩))
  go_ret2
  exact ⟨by (rw [L.out]) <;> rfl, (((((Bel.refl _).alloc _).alloc _).alloc _).trans hb1).trans hb2⟩
theorem Qou {n s m : Int} {t : ByteArray} (h : vsnd ⟨1, n, s, t, m⟩ = true) : t = ⟨#[]⟩ /\ m = 0 := by
 rw [vs1] at h
 simp only [bA, beq_iff_eq, Qa5] at h
 exact ⟨h.2.1, h.2.2⟩
end Go.Proofs.YtjckpkamhdbcnaaGreatDoor
