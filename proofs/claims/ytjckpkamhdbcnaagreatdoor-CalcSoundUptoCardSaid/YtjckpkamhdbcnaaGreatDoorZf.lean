import Derived.Test.YtjckpkamhdbcnaaGreatDoorZc
import Derived.Test.YtjckpkamhdbcnaaGreatDoorZe
import Derived.Shelf.Strings.SlTrimAscii
namespace Go.Proofs.YtjckpkamhdbcnaaGreatDoor
set_option maxRecDepth 100000
set_option maxHeartbeats 64000000
set_option linter.unusedSimpArgs false
set_option linter.unusedVariables false
section
open Go.RowKit
theorem Qag (s : ByteArray) : s.data.toList.length = s.size := Array.length_toList
theorem Qts (c : UInt8) : fgB c = true ↔ (48 <= c.toNat /\ c.toNat <= 57) := by simp [fgB]
theorem Qtt (c : UInt8) : ltB c = true ↔ (c.toNat = 95 \/ (97 <= c.toNat /\ c.toNat <= 122) \/ (65 <= c.toNat /\ c.toNat <= 90)) := by simp [ltB]
theorem Qcb (c : UInt8) (w : World) : Calls Tryz.prog 130 #[.int .u8 (c.toNat : Nat)] w fun e w' => e = .returned (.bool (fgB c)) /\ w' = w := by
 have hi := Qts c
 obtain ⟨b, hb⟩ : ∃ b, b = fgB c := ⟨_, rfl⟩
 have hr := c.toNat_lt
 rw [← hb] at hi ⊢
 clear hb
 generalize c.toNat = r at *
 have hc : (r < 48) \/ (48 <= r /\ r <= 57) \/ (57 < r) := by omega
 rcases hc with h | h | h
 ·obtain rfl : b = false := by rw [Bool.eq_false_iff]; exact fun h' => by have := hi.1 h'; omega
  have e48 : ((r : Int) == 48) = false := by rw [bN]; omega
  have g48 : decide ((48 : Int) <= r) = false := dF (by omega)
  have gg48 : decide ((r : Int) >= 48) = false := dF (by omega)
  have l48 : decide ((r : Int) <= 48) = true := dT (by omega)
  have e57 : ((r : Int) == 57) = false := by rw [bN]; omega
  have g57 : decide ((57 : Int) <= r) = false := dF (by omega)
  have gg57 : decide ((r : Int) >= 57) = false := dF (by omega)
  have l57 : decide ((r : Int) <= 57) = true := dT (by omega)
  clear hi hr h
  go_enter Tryz.func130, Tryz.ntmps130
  go_wp2
  go_ret
  exact ⟨rfl, rfl⟩
 ·obtain rfl : b = true := by rw [hi]; omega
  have _u := hr
  have g48 : decide ((48 : Int) <= r) = true := dT (by omega)
  have gg48 : decide ((r : Int) >= 48) = true := dT (by omega)
  have _u := hr
  have l57 : decide ((r : Int) <= 57) = true := dT (by omega)
  clear hi hr h
  go_enter Tryz.func130, Tryz.ntmps130
  go_wp2
  go_ret
  exact ⟨rfl, rfl⟩
 obtain rfl : b = false := by rw [Bool.eq_false_iff]; exact fun h' => by have := hi.1 h'; omega
 have e48 : ((r : Int) == 48) = false := by rw [bN]; omega
 have g48 : decide ((48 : Int) <= r) = true := dT (by omega)
 have gg48 : decide ((r : Int) >= 48) = true := dT (by omega)
 have l48 : decide ((r : Int) <= 48) = false := dF (by omega)
 have e57 : ((r : Int) == 57) = false := by rw [bN]; omega
 have g57 : decide ((57 : Int) <= r) = true := dT (by omega)
 have gg57 : decide ((r : Int) >= 57) = true := dT (by omega)
 have l57 : decide ((r : Int) <= 57) = false := dF (by omega)
 clear hi hr h
 go_enter Tryz.func130, Tryz.ntmps130
 go_wp2
 go_ret
 exact ⟨rfl, rfl⟩
theorem Qfk (c : UInt8) (w : World) : Calls Tryz.prog 134 #[.int .u8 (c.toNat : Nat)] w fun e w' => e = .returned (.bool (ltB c)) /\ w' = w := by
 have hi := Qtt c
 obtain ⟨b, hb⟩ : ∃ b, b = ltB c := ⟨_, rfl⟩
 have hr := c.toNat_lt
 rw [← hb] at hi ⊢
 clear hb
 generalize c.toNat = r at *
 have hc : (r < 65) \/ (65 <= r /\ r <= 90) \/ (91 <= r /\ r <= 94) \/ (r = 95) \/ (r = 96) \/ (97 <= r /\ r <= 122) \/ (122 < r) := by omega
 rcases hc with h | h | h | h | h | h | h
 ·obtain rfl : b = false := by rw [Bool.eq_false_iff]; exact fun h' => by have := hi.1 h'; omega
  have e65 : ((r : Int) == 65) = false := by rw [bN]; omega
  have g65 : decide ((65 : Int) <= r) = false := dF (by omega)
  have gg65 : decide ((r : Int) >= 65) = false := dF (by omega)
  have l65 : decide ((r : Int) <= 65) = true := dT (by omega)
  have e90 : ((r : Int) == 90) = false := by rw [bN]; omega
  have g90 : decide ((90 : Int) <= r) = false := dF (by omega)
  have gg90 : decide ((r : Int) >= 90) = false := dF (by omega)
  have l90 : decide ((r : Int) <= 90) = true := dT (by omega)
  have e95 : ((r : Int) == 95) = false := by rw [bN]; omega
  have g95 : decide ((95 : Int) <= r) = false := dF (by omega)
  have gg95 : decide ((r : Int) >= 95) = false := dF (by omega)
  have l95 : decide ((r : Int) <= 95) = true := dT (by omega)
  have e97 : ((r : Int) == 97) = false := by rw [bN]; omega
  have g97 : decide ((97 : Int) <= r) = false := dF (by omega)
  have gg97 : decide ((r : Int) >= 97) = false := dF (by omega)
  have l97 : decide ((r : Int) <= 97) = true := dT (by omega)
  have e122 : ((r : Int) == 122) = false := by rw [bN]; omega
  have g122 : decide ((122 : Int) <= r) = false := dF (by omega)
  have gg122 : decide ((r : Int) >= 122) = false := dF (by omega)
  have l122 : decide ((r : Int) <= 122) = true := dT (by omega)
  clear hi hr h
  go_enter Tryz.func134, Tryz.ntmps134
  go_wp2
  go_ret
  exact ⟨rfl, rfl⟩
 ·obtain rfl : b = true := by rw [hi]; omega
  have _u := hr
  have g65 : decide ((65 : Int) <= r) = true := dT (by omega)
  have gg65 : decide ((r : Int) >= 65) = true := dT (by omega)
  have _u := hr
  have l90 : decide ((r : Int) <= 90) = true := dT (by omega)
  have e95 : ((r : Int) == 95) = false := by rw [bN]; omega
  have g95 : decide ((95 : Int) <= r) = false := dF (by omega)
  have gg95 : decide ((r : Int) >= 95) = false := dF (by omega)
  have l95 : decide ((r : Int) <= 95) = true := dT (by omega)
  have e97 : ((r : Int) == 97) = false := by rw [bN]; omega
  have g97 : decide ((97 : Int) <= r) = false := dF (by omega)
  have gg97 : decide ((r : Int) >= 97) = false := dF (by omega)
  have l97 : decide ((r : Int) <= 97) = true := dT (by omega)
  have e122 : ((r : Int) == 122) = false := by rw [bN]; omega
  have g122 : decide ((122 : Int) <= r) = false := dF (by omega)
  have gg122 : decide ((r : Int) >= 122) = false := dF (by omega)
  have l122 : decide ((r : Int) <= 122) = true := dT (by omega)
  clear hi hr h
  go_enter Tryz.func134, Tryz.ntmps134
  go_wp2
  go_ret
  exact ⟨rfl, rfl⟩
 ·obtain rfl : b = false := by rw [Bool.eq_false_iff]; exact fun h' => by have := hi.1 h'; omega
  have e65 : ((r : Int) == 65) = false := by rw [bN]; omega
  have g65 : decide ((65 : Int) <= r) = true := dT (by omega)
  have gg65 : decide ((r : Int) >= 65) = true := dT (by omega)
  have l65 : decide ((r : Int) <= 65) = false := dF (by omega)
  have e90 : ((r : Int) == 90) = false := by rw [bN]; omega
  have g90 : decide ((90 : Int) <= r) = true := dT (by omega)
  have gg90 : decide ((r : Int) >= 90) = true := dT (by omega)
  have l90 : decide ((r : Int) <= 90) = false := dF (by omega)
  have e95 : ((r : Int) == 95) = false := by rw [bN]; omega
  have g95 : decide ((95 : Int) <= r) = false := dF (by omega)
  have gg95 : decide ((r : Int) >= 95) = false := dF (by omega)
  have l95 : decide ((r : Int) <= 95) = true := dT (by omega)
  have e97 : ((r : Int) == 97) = false := by rw [bN]; omega
  have g97 : decide ((97 : Int) <= r) = false := dF (by omega)
  have gg97 : decide ((r : Int) >= 97) = false := dF (by omega)
  have l97 : decide ((r : Int) <= 97) = true := dT (by omega)
  have e122 : ((r : Int) == 122) = false := by rw [bN]; omega
  have g122 : decide ((122 : Int) <= r) = false := dF (by omega)
  have gg122 : decide ((r : Int) >= 122) = false := dF (by omega)
  have l122 : decide ((r : Int) <= 122) = true := dT (by omega)
  clear hi hr h
  go_enter Tryz.func134, Tryz.ntmps134
  go_wp2
  go_ret
  exact ⟨rfl, rfl⟩
 ·obtain rfl : b = true := by rw [hi]; omega
  subst h
  clear hi hr
  go_enter Tryz.func134, Tryz.ntmps134
  go_wp2
  go_ret
  exact ⟨rfl, rfl⟩
 ·obtain rfl : b = false := by rw [Bool.eq_false_iff]; exact fun h' => by have := hi.1 h'; omega
  subst h
  clear hi hr
  go_enter Tryz.func134, Tryz.ntmps134
  go_wp2
  go_ret
  exact ⟨rfl, rfl⟩
 ·obtain rfl : b = true := by rw [hi]; omega
  have e65 : ((r : Int) == 65) = false := by rw [bN]; omega
  have g65 : decide ((65 : Int) <= r) = true := dT (by omega)
  have gg65 : decide ((r : Int) >= 65) = true := dT (by omega)
  have l65 : decide ((r : Int) <= 65) = false := dF (by omega)
  have e90 : ((r : Int) == 90) = false := by rw [bN]; omega
  have g90 : decide ((90 : Int) <= r) = true := dT (by omega)
  have gg90 : decide ((r : Int) >= 90) = true := dT (by omega)
  have l90 : decide ((r : Int) <= 90) = false := dF (by omega)
  have e95 : ((r : Int) == 95) = false := by rw [bN]; omega
  have g95 : decide ((95 : Int) <= r) = true := dT (by omega)
  have gg95 : decide ((r : Int) >= 95) = true := dT (by omega)
  have l95 : decide ((r : Int) <= 95) = false := dF (by omega)
  have _u := hr
  have g97 : decide ((97 : Int) <= r) = true := dT (by omega)
  have gg97 : decide ((r : Int) >= 97) = true := dT (by omega)
  have _u := hr
  have l122 : decide ((r : Int) <= 122) = true := dT (by omega)
  clear hi hr h
  go_enter Tryz.func134, Tryz.ntmps134
  go_wp2
  go_ret
  exact ⟨rfl, rfl⟩
 obtain rfl : b = false := by rw [Bool.eq_false_iff]; exact fun h' => by have := hi.1 h'; omega
 have e65 : ((r : Int) == 65) = false := by rw [bN]; omega
 have g65 : decide ((65 : Int) <= r) = true := dT (by omega)
 have gg65 : decide ((r : Int) >= 65) = true := dT (by omega)
 have l65 : decide ((r : Int) <= 65) = false := dF (by omega)
 have e90 : ((r : Int) == 90) = false := by rw [bN]; omega
 have g90 : decide ((90 : Int) <= r) = true := dT (by omega)
 have gg90 : decide ((r : Int) >= 90) = true := dT (by omega)
 have l90 : decide ((r : Int) <= 90) = false := dF (by omega)
 have e95 : ((r : Int) == 95) = false := by rw [bN]; omega
 have g95 : decide ((95 : Int) <= r) = true := dT (by omega)
 have gg95 : decide ((r : Int) >= 95) = true := dT (by omega)
 have l95 : decide ((r : Int) <= 95) = false := dF (by omega)
 have e97 : ((r : Int) == 97) = false := by rw [bN]; omega
 have g97 : decide ((97 : Int) <= r) = true := dT (by omega)
 have gg97 : decide ((r : Int) >= 97) = true := dT (by omega)
 have l97 : decide ((r : Int) <= 97) = false := dF (by omega)
 have e122 : ((r : Int) == 122) = false := by rw [bN]; omega
 have g122 : decide ((122 : Int) <= r) = true := dT (by omega)
 have gg122 : decide ((r : Int) >= 122) = true := dT (by omega)
 have l122 : decide ((r : Int) <= 122) = false := dF (by omega)
 clear hi hr h
 go_enter Tryz.func134, Tryz.ntmps134
 go_wp2
 go_ret
 exact ⟨rfl, rfl⟩
theorem Qv4 (c : UInt8) (w : World) : Calls Tryz.prog 173 #[.int .u8 (c.toNat : Nat)] w fun e w' => e = .returned (.bool (nbB c)) /\ Bel w w' := by
 have C1 := Hd fun w => Qfk c w
 have C2 := Hd fun w => Qcb c w
 have E := Hd (show nbB c = (ltB c || fgB c) from rfl)
 generalize nbB c = q at E ⊢
 generalize c.toNat = r at *
 cases h1 : ltB c with
 | true =>
  rw [h1] at C1 E
  have hq := E.out
  simp only [Bool.true_or] at hq
  subst hq
  go_enter Tryz.func173, Tryz.ntmps173
  go_wp2_with (first
   | (go_at_call 134; refine (C1.out _).mono ?_; rintro e W1 ⟨rfl, rfl⟩)
   | (go_at_call 130; refine (C2.out _).mono ?_; rintro e W1 ⟨rfl, rfl⟩))
  go_ret
  exact ⟨rfl, Bel.refl _⟩
 | false =>
  rw [h1] at C1 E
  have hq := E.out
  simp only [Bool.false_or] at hq
  subst hq
  go_enter Tryz.func173, Tryz.ntmps173
  go_wp2_with (first
   | (go_at_call 134; refine (C1.out _).mono ?_; rintro e W1 ⟨rfl, rfl⟩)
   | (go_at_call 130; refine (C2.out _).mono ?_; rintro e W1 ⟨rfl, rfl⟩))
  go_ret
  exact ⟨rfl, Bel.refl _⟩
theorem Qnf (F : Nat) (q : UInt8 -> Bool) (eg : ∀ args w, (callFunc F args).run Tryz.prog w = .ok (.enter F args) w) (hc : ∀ (c : UInt8) w, Calls Tryz.prog F #[.int .u8 (c.toNat : Nat)] w fun e w' => e = .returned (.bool (q c)) /\ Bel w w') (s : ByteArray) (hs : s.size <= 65536) (w : World) :
  Calls Tryz.prog 165 #[.string s, .func (.func F) #[] #[]] w fun e w' => e = .returned (.int .i64 ((s.data.toList.takeWhile q).length : Nat)) /\ Bel w w' := by
 obtain ⟨N, hN⟩ : ∃ N, N = (s.data.toList.takeWhile q).length := ⟨_, rfl⟩
 have hle : N <= s.size := by
  have := Qbz q s.data.toList
  rw [Qag] at this
  omega
 have G1 := Hd fun k (hk : k < N) => (Qsj q s.data.toList k).1 (by rw [← hN]; exact hk)
 have G2 := Hd ((Qsj q s.data.toList N).2 hN)
 rw [← hN]
 have HC := Hd hc
 have hsi : (s.size : Int) <= 65536 := by omega
 clear hN hc
 go_enter Tryz.func165, Tryz.ntmps165
 go_wp2
 go_loopg [5] (N + 1) (fun g nv wr => ∃ i : Nat, nv = .int .i64 i /\ i <= N /\ Hid (g = N + 1 - i) /\ Hid (Bel w wr))
 case atStart => exact ⟨0, rfl, Nat.zero_le _, Hd rfl, Hd (Bel.refl _)⟩
 case round =>
  obtain ⟨i, rfl, hi, hg, hb⟩ := hrel
  have i0 : (0 : Int) <= (i : Int) := by omega
  have w1 : i < s.size -> IntKind.i64.wrap ((i : Int) + 1) = ((i + 1 : Nat) : Int) := fun _ => by rw [IntKind.wrap_i64]; omega
  by_cases hlt : i < N
  ·have hi' : i < s.size := by omega
   have ii : (i : Int) < s.size := by omega
   have w1 := w1 hi'
   have hq : q s[i] = true := by
    obtain ⟨c, hc, hcn⟩ := G1.out i hlt
    rw [gE (by rw [Qag]; exact hi')] at hc
    rw [← Option.some.inj hc] at hcn
    exact hcn
   have hcall := HC.out s[i] wr
   rw [hq] at hcall
   clear hq
   go_wp2_with (go_at_fn F; refine hcall.mono ?_; rintro e w' ⟨rfl, hb'⟩)
   go_roundg (N + 1 - (i + 1))
   case measure => have := hg.out; omega
   case rel => exact ⟨i + 1, by go_num, by omega, rfl, Hd (hb.out.trans hb')⟩
  obtain rfl : i = N := by omega
  by_cases hz : i = s.size
  ·have ii : decide (i < s.size) = false := dF (by omega)
   have ii' : ¬ i < s.size := by omega
   clear w1 hz
   go_wp2_with fail
   go_ret
   exact ⟨rfl, hb.out⟩
  have hi' : i < s.size := by omega
  have ii : (i : Int) < s.size := by omega
  have hq : q s[i] = false := by
   rcases G2.out with h | ⟨c, hc, hcn⟩
   ·rw [Qag] at h; omega
   rw [gE (by rw [Qag]; exact hi')] at hc
   rw [← Option.some.inj hc] at hcn
   exact hcn
  have hcall := HC.out s[i] wr
  rw [hq] at hcall
  clear hq w1
  go_wp2_with (go_at_fn F; refine hcall.mono ?_; rintro e w' ⟨rfl, hb'⟩)
  go_ret
  exact ⟨rfl, hb.out.trans hb'⟩
theorem Qkb (s : ByteArray) (hs : s.size <= 65536) (w : World) :
  Calls Tryz.prog 165 #[.string s, .func (.func 130) #[] #[]] w fun e w' => e = .returned (.int .i64 ((s.data.toList.takeWhile fgB).length : Nat)) /\ Bel w w' :=
 Qnf 130 fgB (enters_of Tryz.func130 (by kernel_rfl) rfl) (fun c w => (Qcb c w).mono fun e w' ⟨he, hw⟩ => ⟨he, hw ▸ Bel.refl _⟩) s hs w
theorem Qqg (s : ByteArray) (hs : s.size <= 65536) (w : World) :
  Calls Tryz.prog 165 #[.string s, .func (.func 173) #[] #[]] w fun e w' => e = .returned (.int .i64 ((s.data.toList.takeWhile nbB).length : Nat)) /\ Bel w w' :=
 Qnf 173 nbB (enters_of Tryz.func173 (by kernel_rfl) rfl) Qv4 s hs w
end
section
open Go.RowKit
theorem Qw9 : (fun c => [(9 : UInt8), 10, 13, 32].contains c) = wsB := by
 funext c
 unfold wsB
 rw [Bool.eq_iff_iff]
 simp [or_assoc]
 constructor <;> (rintro (h | h | h | h) <;> simp [h])
theorem Qqh (z : ByteArray) (w : World) : Calls Tryz.prog 129 #[.string z, .string ⟨#[9, 10, 13, 32]⟩] w fun r w' => r = .returned (.string (Qaa (z.data.toList.dropWhile wsB))) /\ Bel w w' := by
 have h := Any.strings_TrimLeft_laid Tryz.lays161 (by kernel_rfl) z ⟨#[9, 10, 13, 32]⟩ w (by decide) (ascii_of_all (by decide))
 refine h.mono fun r w' ⟨hr, hb⟩ => ⟨?_, hb⟩
 rw [hr]
 have e : Lib.trimLeftS z.data.toList (⟨#[9, 10, 13, 32]⟩ : ByteArray).data.toList = z.data.toList.dropWhile wsB := by
  unfold Lib.trimLeftS
  exact congrArg (fun f => z.data.toList.dropWhile f) Qw9
 rw [e]
 rfl
theorem Qhn (s : ByteArray) (p : Nat) (hp : p <= s.size) (hs : s.size <= 65536) (w : World) :
  Calls Tryz.prog 88 #[.string s, .int .i64 (p : Nat)] w fun e w' => e = .returned (.int .i64 ((s.size - ((s.data.toList.drop p).dropWhile wsB).length : Nat) : Int)) /\ Bel w w' := by
 have hl := Qbz wsB (s.data.toList.drop p)
 rw [List.length_drop, Qag] at hl
 have C := Hd fun w => Qqh (s.extract p s.size) w
 rw [Qit] at C
 generalize (s.data.toList.drop p).dropWhile wsB = x at *
 have hsz : (Qaa x).size = x.length := Qae x
 have D := Hd (show (s.size : Int) - (x.length : Int) = ((s.size - x.length : Nat) : Int) from by omega)
 have hpi : (p : Int) <= s.size := by omega
 have hxi : (x.length : Int) <= s.size := by omega
 have hsi : (s.size : Int) <= 65536 := by omega
 clear hl
 go_enter Tryz.func88, Tryz.ntmps88
 go_wp2_with (go_at_call 129; refine (C.out _).mono ?_; rintro e W1 ⟨rfl, hb1⟩)
 go_ret
 exact ⟨by rw [← D.out] <;> rfl, hb1⟩
def Qan (w : World) (b : Nat) (t : Tok) : Prop := b < w.heap.size /\
 (w.cell? ⟨b, 0, none⟩ = some (.int .i64 t.kind) /\ w.cell? ⟨b, 1, none⟩ = some (.int .i64 t.pos) /\ w.cell? ⟨b, 2, none⟩ = some (.string (Qaa t.text)) /\ w.cell? ⟨b, 3, none⟩ = some (.int .i64 t.dn) /\ w.cell? ⟨b, 4, none⟩ = some (.int .i64 t.ds) /\ w.cell? ⟨b, 5, none⟩ = some (.int .i64 t.day)) /\
 (w.frozen? ⟨b, 0, none⟩ = false /\ w.frozen? ⟨b, 1, none⟩ = false /\ w.frozen? ⟨b, 2, none⟩ = false /\ w.frozen? ⟨b, 3, none⟩ = false /\ w.frozen? ⟨b, 4, none⟩ = false /\ w.frozen? ⟨b, 5, none⟩ = false)
theorem Qan.keep {w w' : World} {b : Nat} {t : Tok} (h : Qan w b t) (hb : Bel w w') : Qan w' b t := by
 obtain ⟨h0, ⟨a0, a1, a2, a3, a4, a5⟩, ⟨f0, f1, f2, f3, f4, f5⟩⟩ := h
 have c := hb.cells b
 have f := hb.frozens b
 refine ⟨lL h0 hb.size, ⟨?_, ?_, ?_, ?_, ?_, ?_⟩, ⟨?_, ?_, ?_, ?_, ?_, ?_⟩⟩
 all_goals first | (rw [c _ h0]; assumption) | (rw [f _ h0]; assumption)
def tokZ : Tok := ⟨0, 0, [], 0, 0, 0⟩
def firV (l : List UInt8) : TRes -> Value
 | .bad e => .tuple #[.agg #[.int .i64 0, .int .i64 0, .string ⟨#[]⟩, .int .i64 0, .int .i64 0, .int .i64 0], .int .i64 0, .int .i64 (e : Nat)]
 | .ok r (some t) => .tuple #[.agg #[.int .i64 t.kind, .int .i64 t.pos, .string (Qaa t.text), .int .i64 t.dn, .int .i64 t.ds, .int .i64 t.day], .int .i64 ((l.length - r.length : Nat) : Int), .int .i64 0]
 | .ok r none => .tuple #[.agg #[.int .i64 0, .int .i64 0, .string ⟨#[]⟩, .int .i64 0, .int .i64 0, .int .i64 0], .int .i64 0, .int .i64 5]
theorem Qng (s : ByteArray) (hs : s.size <= 65536) (w : World) :
  Calls Tryz.prog 135 #[.string s] w fun e w' => e = .returned (firV s.data.toList (namT s.data.toList)) /\ Bel w w' := by
 have hl := Qbz nbB s.data.toList
 have ht := Qtm nbB s.data.toList
 have CR := Hd fun W => Qqg s hs W
 have FV0 := Hd (show nmOk (s.data.toList.takeWhile nbB) = false -> firV s.data.toList (namT s.data.toList) = firV [] (.bad 5) from fun h => by unfold namT; rw [h]; rfl)
 have FV1 := Hd (show nmOk (s.data.toList.takeWhile nbB) = true -> firV s.data.toList (namT s.data.toList) = .tuple #[.agg #[.int .i64 4, .int .i64 0, .string (Qaa (s.data.toList.takeWhile nbB)), .int .i64 0, .int .i64 0, .int .i64 0], .int .i64 ((s.data.toList.takeWhile nbB).length : Nat), .int .i64 0] from fun h => by
  unfold namT
  rw [iP h]
  simp only [firV]
  rw [show s.data.toList.length - (s.data.toList.dropWhile nbB).length = (s.data.toList.takeWhile nbB).length by omega])
 rw [Qag] at hl
 generalize firV s.data.toList (namT s.data.toList) = FV at *
 generalize s.data.toList.dropWhile nbB = y at *
 generalize s.data.toList.takeWhile nbB = nm at *
 have GX := Hd (show s.extract 0 nm.length = Qaa nm from by rw [Qcr, List.drop_zero, Nat.sub_zero, ht])
 have CN := Hd fun W => Qgp (Qaa nm) (by rw [Qae]; omega) W
 have hi : (nm.length : Int) <= s.size := by omega
 have hi2 : nm.length <= s.size := by omega
 have hsi : (s.size : Int) <= 65536 := by omega
 have E := Hd (show nmOk nm = nameB (Qaa nm) from rfl)
 rw [← E.out] at CN
 clear hl ht E
 cases hq : nmOk nm with
 | false =>
  obtain rfl := FV0.out hq
  rw [hq] at CN
  clear hq FV0 FV1
  go_enter Tryz.func135, Tryz.ntmps135
  go_upto_region 1 with fail
  refine uN ((Bel.refl w).alloc _) fun W hc hf hz hb => ?_
  have T : Qan W w.heap.size tokZ := by simp [Qan, tokZ, Qaa, hc, hf, hz, go_sem]
  clear hc hf hz
  generalize hN : w.heap.size = N at T ⊢
  have BN := Hd (show w.heap.size <= N from by omega)
  clear hN
  go_wp2_with (first
   | (go_at_call 165; refine (CR.out _).mono ?_; rintro e W1 ⟨rfl, hb1⟩)
   | (go_at_call 102; rw [GX.out]; refine (CN.out _).mono ?_; rintro e W2 ⟨rfl, hb2⟩; obtain ⟨t0, ⟨t1, t2, t3, t4, t5, t6⟩, ⟨g1, g2, g3, g4, g5, g6⟩⟩ := T.keep (hb1.trans hb2); simp only [tokZ] at t1 t2 t3 t4 t5 t6))
  refine pR (by simp [results, Tryz.results135, go_sem, t1, t2, t3, t4, t5, t6]; try rfl) rfl ⟨rfl, ?_⟩
  have hN := BN.out
  have hq1 := hb.trans (hb1.trans hb2)
  exact Bel.y
 | true =>
  obtain rfl := FV1.out hq
  rw [hq] at CN
  clear hq FV0 FV1
  go_enter Tryz.func135, Tryz.ntmps135
  go_upto_region 1 with fail
  refine uN ((Bel.refl w).alloc _) fun W hc hf hz hb => ?_
  have T : Qan W w.heap.size tokZ := by simp [Qan, tokZ, Qaa, hc, hf, hz, go_sem]
  clear hc hf hz
  generalize hN : w.heap.size = N at T ⊢
  have BN := Hd (show w.heap.size <= N from by omega)
  clear hN
  go_wp2_with (first
   | (go_at_call 165; refine (CR.out _).mono ?_; rintro e W1 ⟨rfl, hb1⟩)
   | (go_at_call 102; rw [GX.out]; refine (CN.out _).mono ?_; rintro e W2 ⟨rfl, hb2⟩; obtain ⟨t0, ⟨t1, t2, t3, t4, t5, t6⟩, ⟨g1, g2, g3, g4, g5, g6⟩⟩ := T.keep (hb1.trans hb2); simp only [tokZ] at t1 t2 t3 t4 t5 t6))
  refine pR (by simp [results, Tryz.results135, go_sem, t1, t2, t3, t4, t5, t6]; try rfl) rfl ⟨by rw [GX.out], ?_⟩
  have hN := BN.out
  have hq1 := hb.trans (hb1.trans hb2)
  exact Bel.y
end
end Go.Proofs.YtjckpkamhdbcnaaGreatDoor
