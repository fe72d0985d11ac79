import Derived.Test.YtjckpkamhdbcnaaGreatDoorZba
import Derived.Test.YtjckpkamhdbcnaaGreatDoorZb
import Derived.Test.YtjckpkamhdbcnaaGreatDoorZc
import Derived.Test.YtjckpkamhdbcnaaGreatDoorShm
import Derived.Deep.LoopGhost
import Derived.Laws.Externs
import Derived.Deep.OwnRows
import Derived.Deep.QuietTactic
import Derived.BigQuiet
import Derived.Deep.CutBlock
import Derived.Deep.DeepCutAuto
import Derived.Deep.RegionHeld3
namespace Go.Proofs.YtjckpkamhdbcnaaGreatDoor
set_option maxRecDepth 100000
set_option maxHeartbeats 64000000
set_option linter.unusedSimpArgs false
set_option linter.unusedVariables false
section
theorem Qo7 (m : Nat) : heven m 1 = m := by simp [heven, Nat.mod_one]
theorem Qia (m d k : Nat) (hk : 0 < k) : heven (m * k) (d * k) = heven m d := by
 unfold heven
 rw [Nat.mul_mod_mul_right, Nat.mul_div_mul_right _ _ hk]
 have h1 : (d * k < 2 * (m % d * k)) ↔ (d < 2 * (m % d)) := by
  rw [← Nat.mul_assoc]; exact Nat.mul_lt_mul_right hk
 have h2 : (2 * (m % d * k) = d * k) ↔ (2 * (m % d) = d) := by
  rw [← Nat.mul_assoc]
  constructor
  ·exact fun h => Nat.eq_of_mul_eq_mul_right hk h
  intro h; rw [h]
 simp only [h1, h2]
theorem Qib (N b k : Nat) (hb : 0 < b) (hk : 2 <= k) :
  heven (let q := N / b; if 0 < N % b /\ q % 10 = 0 then q + 1 else q) (10 ^ k) = heven N (b * 10 ^ k) := by
 obtain ⟨j, rfl⟩ : ∃ j, k = j + 2 := ⟨k - 2, by omega⟩
 have hp : 10 ^ (j + 2) = 100 * 10 ^ j := by rw [Nat.pow_add]; omega
 have hP : 0 < 10 ^ j := Nat.pow_pos (by omega)
 generalize hD : 10 ^ (j + 2) = D at *
 have hD100 : D = 100 * 10 ^ j := hp
 generalize 10 ^ j = P at *
 have hNb := Nat.div_add_mod N b
 generalize hq : N / b = q at *
 have hr : N % b < b := Nat.mod_lt _ hb
 generalize hr' : N % b = r at *
 have hqd := Nat.div_add_mod q D
 have hqm : q % D < D := Nat.mod_lt _ (by omega)
 generalize hx : q / D = x at *
 generalize hy : q % D = y at *
 -- N = b*D*x + (b*y + r)
 have hN : N = (b * D) * x + (b * y + r) := by
  rw [← hNb, ← hqd, Nat.mul_add, Nat.mul_assoc]; omega
 have hlt : b * y + r < b * D := by
  have : b * y + b <= b * D := by rw [← Nat.mul_succ]; exact Nat.mul_le_mul_left _ hqm
  omega
 have hdiv : N / (b * D) = x := by
  rw [hN, Nat.mul_add_div (Nat.mul_pos hb (by omega)), Nat.div_eq_of_lt hlt]; rfl
 have hmod : N % (b * D) = b * y + r := by
  rw [hN, Nat.mul_add_mod, Nat.mod_eq_of_lt hlt]
 have hy10 : q % 10 = y % 10 := by
  rw [← hqd, hD100, show 100 * P * x = 10 * (10 * P * x) by simp only [Nat.mul_assoc]; omega, Nat.mul_add_mod]
 have key : ∀ y', (y' = if 0 < r /\ y % 10 = 0 then y + 1 else y) ->
   ((D < 2 * y' ↔ b * D < 2 * (b * y + r)) /\ (2 * y' = D ↔ 2 * (b * y + r) = b * D) /\ y' < D) := by
  intro y' hy'
  have e2 : D % 20 = 0 := by omega
  by_cases hr0 : r = 0
  ·have : y' = y := by rw [hy', iN (by omega)]
   subst this
   rw [hr0, Nat.add_zero, ← Nat.mul_assoc, Nat.mul_comm 2 b, Nat.mul_assoc]
   refine ⟨(Nat.mul_lt_mul_left hb).symm, ⟨fun h => by rw [h], fun h => Nat.eq_of_mul_eq_mul_left hb h⟩, hqm⟩
  have hh : 2 * (b * y + r) = b * (2 * y) + 2 * r := by rw [Nat.mul_add, ← Nat.mul_assoc, ← Nat.mul_assoc, Nat.mul_comm 2 b]
  rw [hh]
  -- D is even: 2y+1 never equals it
  have c1 : D <= 2 * y -> b * D <= b * (2 * y) := fun h => Nat.mul_le_mul_left _ h
  have c2 : 2 * y + 2 <= D -> b * (2 * y) + 2 * b <= b * D := fun h => by
   have := Nat.mul_le_mul_left b h
   rw [Nat.mul_add] at this; omega
  have hd2 : D % 2 = 0 := by omega
  by_cases hyd : D <= 2 * y
  ·have := c1 hyd
   by_cases h0 : y % 10 = 0
   ·have : y' = y + 1 := by rw [hy', iP ⟨by omega, h0⟩]
    subst this
    omega
   have : y' = y := by rw [hy', iN (fun h => h0 h.2)]
   subst this
   omega
  have := c2 (by omega)
  by_cases h0 : y % 10 = 0
  ·have : y' = y + 1 := by rw [hy', iP ⟨by omega, h0⟩]
   subst this
   omega
  have : y' = y := by rw [hy', iN (fun h => h0 h.2)]
  subst this
  omega
 have hk := key _ rfl
 have hq' : (if 0 < r /\ q % 10 = 0 then q + 1 else q) = D * x + (if 0 < r /\ y % 10 = 0 then y + 1 else y) := by
  rw [hy10]; split <;> omega
 simp only
 rw [hq']
 generalize (if 0 < r /\ y % 10 = 0 then y + 1 else y) = y' at *
 unfold heven
 rw [Nat.mul_add_mod, Nat.mod_eq_of_lt hk.2.2, Nat.mul_add_div (by omega), Nat.div_eq_of_lt hk.2.2, Nat.add_zero, hdiv, hmod]
 simp only [hk.1, hk.2.1]
theorem Qer (m i : Nat) : dg m i < 10 := Nat.mod_lt _ (by omega)
theorem Qb1 (m i : Nat) : m / 10 ^ (i + 1) = m / 10 ^ i / 10 := by rw [Nat.pow_succ, Nat.div_div_eq_div_mul]
theorem Qcc (m i : Nat) : m / 10 ^ i = 10 * (m / 10 ^ (i + 1)) + dg m i := by rw [Qb1, dg]; omega
theorem Qe9 (m i : Nat) : m % 10 ^ (i + 1) = m % 10 ^ i + 10 ^ i * dg m i := by rw [Nat.pow_succ, Nat.mod_mul, dg]
theorem Qrs (m i : Nat) (h : m < 10) (hi : 0 < i) : dg m i = 0 := by
 obtain ⟨j, rfl⟩ : ∃ j, i = j + 1 := ⟨i - 1, by omega⟩
 have : m / 10 ^ (j + 1) = 0 := Nat.div_eq_of_lt (by have := p10 j; rw [Nat.pow_succ]; omega)
 rw [dg, this]
theorem Qfa (m : Nat) : dg m 0 = m % 10 := by simp [dg]
theorem Qfb (m k i : Nat) : dg (m / 10 ^ k) i = dg m (k + i) := by rw [dg, dg, Nat.div_div_eq_div_mul, Nat.pow_add]
theorem Qwp (m k i : Nat) : dg (m * 10 ^ k) (i + k) = dg m i := by
 rw [dg, dg, Nat.pow_add, Nat.mul_div_mul_right _ _ (p10 k)]
theorem Qs1 (m k i : Nat) (h : i < k) : dg (m * 10 ^ k) i = 0 := by
 obtain ⟨j, rfl⟩ : ∃ j, k = j + 1 + i := ⟨k - i - 1, by omega⟩
 rw [dg, Nat.pow_add, ← Nat.mul_assoc, Nat.mul_div_cancel _ (p10 i), Nat.pow_succ, ← Nat.mul_assoc]
 omega
theorem Qs2 (m i : Nat) (h : m < 10 ^ i) : dg m i = 0 := by rw [dg, Nat.div_eq_of_lt h]
def car (x y i : Nat) : Nat := (x % 10 ^ i + y % 10 ^ i) / 10 ^ i
theorem Qxf (x y : Nat) : car x y 0 = 0 := by simp [car, Nat.mod_one]
theorem Qwq (x y i : Nat) : car x y i <= 1 := by
 have h1 := Nat.mod_lt x (p10 i)
 have h2 := Nat.mod_lt y (p10 i)
 unfold car
 have : (x % 10 ^ i + y % 10 ^ i) / 10 ^ i < 2 := by rw [Nat.div_lt_iff_lt_mul (p10 i)]; omega
 omega
theorem Qjm (x y i : Nat) : (x + y) / 10 ^ i = x / 10 ^ i + y / 10 ^ i + car x y i := by
 have h1 := Nat.div_add_mod x (10 ^ i)
 have h2 := Nat.div_add_mod y (10 ^ i)
 unfold car
 generalize hP : 10 ^ i = P at *
 have hp : 0 < P := hP ▸ p10 i
 have h : x + y = P * (x / P + y / P) + (x % P + y % P) := by rw [Nat.mul_add]; omega
 conv => lhs; rw [h]
 rw [Nat.mul_add_div hp]
theorem Ql0 (x y i : Nat) : (dg x i + dg y i + car x y i) % 10 = dg (x + y) i := by
 unfold dg
 rw [Qjm]
 omega
theorem Ql1 (x y i : Nat) : (dg x i + dg y i + car x y i) / 10 = car x y (i + 1) := by
 have h1 := Qjm x y i
 have h2 := Qjm x y (i + 1)
 rw [Qb1, Qb1, Qb1] at h2
 unfold dg
 omega
def bor (x y i : Nat) : Nat := if x % 10 ^ i < y % 10 ^ i then 1 else 0
theorem Qxg (x y : Nat) : bor x y 0 = 0 := by simp [bor, Nat.mod_one]
theorem Qk0 (x y i : Nat) : bor x y i <= 1 := by unfold bor; split <;> omega
theorem Qjn (x y i : Nat) (h : y <= x) : (x - y) / 10 ^ i + y / 10 ^ i + bor x y i = x / 10 ^ i := by
 have h1 := Nat.div_add_mod x (10 ^ i)
 have h2 := Nat.div_add_mod y (10 ^ i)
 have h3 := Nat.mod_lt x (p10 i)
 have h4 := Nat.mod_lt y (p10 i)
 have h5 := Nat.div_le_div_right (c := 10 ^ i) h
 unfold bor
 generalize hP : 10 ^ i = P at *
 have hp : 0 < P := hP ▸ p10 i
 by_cases hl : x % P < y % P
 ·rw [iP hl]
  have h6 : y / P < x / P := by
   rcases Nat.lt_or_ge (y / P) (x / P) with h6 | h6
   ·exact h6
   have := Nat.mul_le_mul_left P h6; omega
  have h7 : x - y = P * (x / P - y / P - 1) + (P + x % P - y % P) := by
   rw [Nat.mul_sub, Nat.mul_sub]
   have := Nat.mul_le_mul_left P (show y / P + 1 <= x / P from h6)
   rw [Nat.mul_add] at this
   omega
  rw [h7, Nat.mul_add_div hp, Nat.div_eq_of_lt (show P + x % P - y % P < P by omega)]
  omega
 rw [iN hl]
 have h7 : x - y = P * (x / P - y / P) + (x % P - y % P) := by
  rw [Nat.mul_sub]
  have := Nat.mul_le_mul_left P h5
  omega
 rw [h7, Nat.mul_add_div hp, Nat.div_eq_of_lt (show x % P - y % P < P by omega)]
 omega
theorem Qjo (x y i : Nat) (h : y <= x) : (if dg x i < dg y i + bor x y i then dg x i + 10 - dg y i - bor x y i else dg x i - dg y i - bor x y i) = dg (x - y) i := by
 have h1 := Qjn x y i h
 have h2 := Qk0 x y i
 unfold dg
 split <;> omega
theorem Qic (x y i : Nat) (h : y <= x) : (if dg x i < dg y i + bor x y i then 1 else 0) = bor x y (i + 1) := by
 have h1 := Qjn x y i h
 have h2 := Qjn x y (i + 1) h
 rw [Qb1, Qb1, Qb1] at h2
 have h3 := Qk0 x y i
 have h4 := Qk0 x y (i + 1)
 unfold dg
 split <;> omega
theorem Ql2 (x y i : Nat) (h : x / 10 ^ (i + 1) = y / 10 ^ (i + 1)) (hd : dg x i ≠ dg y i) : (x < y ↔ dg x i < dg y i) := by
 have h1 := Qcc x i
 have h2 := Qcc y i
 constructor
 ·intro hl
  have := Nat.div_le_div_right (c := 10 ^ i) (Nat.le_of_lt hl)
  omega
 intro hl
 rcases Nat.lt_or_ge x y with h3 | h3
 ·exact h3
 have := Nat.div_le_div_right (c := 10 ^ i) h3
 omega
theorem Qo8 (x y i : Nat) (h : x / 10 ^ (i + 1) = y / 10 ^ (i + 1)) (hd : dg x i = dg y i) : x / 10 ^ i = y / 10 ^ i := by
 rw [Qcc x i, Qcc y i, h, hd]
def upd (f : Nat -> Nat) (p v : Nat) : Nat -> Nat := fun j => if j = p then v else f j
theorem Qk1 (f : Nat -> Nat) (p v : Nat) : upd f p v p = v := by simp [upd]
theorem Qeb (f : Nat -> Nat) (p v j : Nat) (h : j ≠ p) : upd f p v j = f j := by simp [upd, h]
theorem Qgg (n : Nat) : ∀ (f : Nat -> Nat) (i p v : Nat), p < i -> tv (upd f p v) i n = tv f i n := by
 induction n with
 | zero => intros; rfl
 | succ n ih => intro f i p v h; rw [tv, tv, ih f (i + 1) p v (by omega), Qeb _ _ _ _ (by omega)]
theorem Qgh (n : Nat) : ∀ (f : Nat -> Nat) (i p d : Nat), i <= p -> p < i + n -> tv (upd f p (f p + d)) i n = tv f i n + d * 10 ^ (p - i) := by
 induction n with
 | zero => intro f i p d h1 h2; omega
 | succ n ih =>
  intro f i p d h1 h2
  rw [tv, tv]
  by_cases h : p = i
  ·subst h
   rw [Qk1, Qgg _ _ _ _ _ (by omega)]
   simp; omega
  rw [Qeb _ _ _ _ (by omega), ih f (i + 1) p d (by omega) (by omega)]
  have : 10 ^ (p - i) = 10 * 10 ^ (p - (i + 1)) := by rw [show p - i = (p - (i + 1)) + 1 by omega, Nat.pow_succ, Nat.mul_comm]
  rw [this, Nat.mul_add, ← Nat.mul_assoc 10 d, Nat.mul_comm 10 d, Nat.mul_assoc]
  omega
theorem Qu4 (n : Nat) : ∀ (i : Nat), tv (fun _ => 0) i n = 0 := by
 induction n with
 | zero => intro i; rfl
 | succ n ih => intro i; rw [tv, ih]
theorem Qo9 (N b i : Nat) (hb : 0 < b) : N / 10 ^ (i + 1) % b * 10 + dg N i < 10 * b /\ (N / 10 ^ (i + 1) % b * 10 + dg N i) / b = dg (N / b) i /\ (N / 10 ^ (i + 1) % b * 10 + dg N i) % b = N / 10 ^ i % b := by
 have hr : N / 10 ^ (i + 1) % b < b := Nat.mod_lt _ hb
 have hd := Qer N i
 have hs := Qcc N i
 have hq := Nat.div_add_mod (N / 10 ^ (i + 1)) b
 generalize hM : N / 10 ^ (i + 1) = M at *
 have hX : N / 10 ^ i = b * (10 * (M / b)) + (M % b * 10 + dg N i) := by
  rw [hs, ← Nat.mul_assoc, Nat.mul_comm b 10, Nat.mul_assoc]; omega
 have hlt : M % b * 10 + dg N i < 10 * b := by omega
 refine ⟨hlt, ?_, ?_⟩
 ·have h1 : N / b / 10 ^ i = N / 10 ^ i / b := by rw [Nat.div_div_eq_div_mul, Nat.div_div_eq_div_mul, Nat.mul_comm]
  show _ = N / b / 10 ^ i % 10
  rw [h1, hX, Nat.mul_add_div hb]
  have hx : (M % b * 10 + dg N i) / b < 10 := by rw [Nat.div_lt_iff_lt_mul hb]; exact hlt
  rw [Nat.mul_add_mod, Nat.mod_eq_of_lt hx]
 rw [hX, Nat.mul_add_mod]
theorem Qid (V k : Nat) (hk : 0 < k) :
  V / 10 ^ k + (if 5 < dg V (k - 1) \/ (dg V (k - 1) = 5 /\ (0 < V % 10 ^ (k - 1) \/ dg V k % 2 = 1)) then 1 else 0) = heven V (10 ^ k) := by
 obtain ⟨j, rfl⟩ : ∃ j, k = j + 1 := ⟨k - 1, by omega⟩
 rw [Nat.add_sub_cancel]
 have h1 := Qe9 V j
 have hp := p10 j
 have hm := Nat.mod_lt V hp
 have hpp : 10 ^ (j + 1) = 10 * 10 ^ j := by rw [Nat.pow_succ, Nat.mul_comm]
 have hd := Qer V j
 have hodd : dg V (j + 1) % 2 = V / 10 ^ (j + 1) % 2 := by rw [dg]; omega
 unfold heven
 rw [h1, hodd]
 generalize V / 10 ^ (j + 1) = q at *
 rw [hpp]
 generalize hP : 10 ^ j = P at *
 generalize V % P = r at *
 generalize dg V j = d at *
 have hc : (5 < d \/ (d = 5 /\ (0 < r \/ q % 2 = 1))) ↔ (10 * P < 2 * (r + P * d) \/ (2 * (r + P * d) = 10 * P /\ q % 2 = 1)) := by
  have : d = 0 \/ d = 1 \/ d = 2 \/ d = 3 \/ d = 4 \/ d = 5 \/ d = 6 \/ d = 7 \/ d = 8 \/ d = 9 := by omega
  rcases this with rfl | rfl | rfl | rfl | rfl | rfl | rfl | rfl | rfl | rfl <;> omega
 by_cases h : 5 < d \/ (d = 5 /\ (0 < r \/ q % 2 = 1))
 ·rw [iP h, iP (hc.1 h)]
 rw [iN h, iN (fun h' => h (hc.2 h'))]; rfl
end
section
open Go.RowKit
def DRow (w : World) (b o n : Nat) (f : Nat -> Nat) : Prop :=
 b < w.heap.size /\ ∀ i, i < n -> w.cell? ⟨b, o + i, none⟩ = some (.int .i64 (f i : Nat)) /\ w.frozen? ⟨b, o + i, none⟩ = false
theorem DRow.keep {w w' : World} {b o n : Nat} {f : Nat -> Nat} (h : DRow w b o n f) (hb : Bel w w') : DRow w' b o n f :=
 ⟨lL h.1 hb.size, fun i hi => ⟨(hb.cells _ _ h.1).trans (h.2 i hi).1, (hb.frozens _ _ h.1).trans (h.2 i hi).2⟩⟩
theorem DRow.ext {w : World} {b o n : Nat} {f g : Nat -> Nat} (h : DRow w b o n f) (hfg : ∀ i, i < n -> f i = g i) : DRow w b o n g :=
 ⟨h.1, fun i hi => ⟨by rw [← hfg i hi]; exact (h.2 i hi).1, (h.2 i hi).2⟩⟩
theorem DRow.at0 {w : World} {b n : Nat} {f : Nat -> Nat} (h : DRow w b 0 n f) {i : Nat} (hi : i < n) : w.cell? ⟨b, i, none⟩ = some (.int .i64 (f i : Nat)) /\ w.frozen? ⟨b, i, none⟩ = false := by
 have := h.2 i hi
 rwa [Nat.zero_add] at this
theorem DRow.put {w : World} {b n : Nat} {f : Nat -> Nat} (h : DRow w b 0 n f) (k v : Nat) (hk : k < n) : DRow (w.setCell ⟨b, k, none⟩ (.int .i64 (v : Nat))) b 0 n (upd f k v) := by
 refine ⟨by have := h.1; simpa using this, fun i hi => ?_⟩
 rw [Nat.zero_add]
 obtain ⟨h1, h2⟩ := h.at0 hi
 obtain ⟨h3, h4⟩ := h.at0 hk
 by_cases he : i = k
 ·subst he
  rw [Qk1]
  exact ⟨by simp [go_sem, h1], by simp [go_sem, h2]⟩
 rw [Qeb _ _ _ _ he]
 have he' : ¬ k = i := fun h => he h.symm
 exact ⟨by simp [go_sem, h1, he, he'], by simp [go_sem, h2, he, he']⟩
theorem DRow.same {w W : World} {b o n : Nat} {f : Nat -> Nat} (h : DRow w b o n f) (hc : ∀ p, W.cell? p = w.cell? p) (hf : ∀ p, W.frozen? p = w.frozen? p) (hz : W.heap.size = w.heap.size) : DRow W b o n f :=
 ⟨by rw [hz]; exact h.1, fun i hi => by rw [hc, hf]; exact h.2 i hi⟩
theorem DRow.drewN {w : World} {b o n : Nat} {f : Nat -> Nat} (h : DRow w b o n f) (k : Nat) : DRow (w.drewN k) b o n f := h.keep ((Bel.refl w).drewN k)
theorem DRow.drew {w : World} {b o n : Nat} {f : Nat -> Nat} (h : DRow w b o n f) : DRow w.drew b o n f := h.keep (Bel.refl w).drew
theorem DRow.tail {w : World} {b o n : Nat} {f : Nat -> Nat} (h : DRow w b o n f) (k : Nat) (hk : k <= n) : DRow w b (o + k) (n - k) (fun i => f (k + i)) :=
 ⟨h.1, fun i hi => by rw [Nat.add_assoc]; exact h.2 (k + i) (by omega)⟩
theorem DRow.other {w : World} {b o n : Nat} {f : Nat -> Nat} (h : DRow w b o n f) {a : Addr} (ha : b ≠ a.block) (v : Value) : DRow (w.setCell a v) b o n f := by
 refine ⟨by have := h.1; simpa using this, fun i hi => ?_⟩
 obtain ⟨h1, h2⟩ := h.2 i hi
 have e : ∀ o, (⟨b, o, none⟩ : Addr).block ≠ a.block := fun _ => ha
 exact ⟨by rw [← h1]; exact World.cell?_of_block (Deep.blk_setCell_other _ _ _ _ ha), by rw [← h2]; exact World.frozen?_of_block (Deep.blk_setCell_other _ _ _ _ ha)⟩
theorem Qcj (w : World) (n : Nat) (t : TypeId) : DRow (w.alloc (.cells (madeCells #[.int .i64 0] n) t)) w.heap.size 0 n (fun _ => 0) := by
 have h := World.rowIs_made w (.int .i64 0) n t
 exact ⟨h.lt, fun i hi => by rw [Nat.zero_add]; exact ⟨h.cell hi, h.frozen i⟩⟩
theorem Tryz.underRow : Tryz.prog.underlying 119 = some (.slice 3) := by kernel_rfl
theorem Tryz.infoRow : (Tryz.prog.info? 3).map (fun i => (i.zero, i.size, i.bytes)) = some (some (.int .i64 0), 1, 8) := by kernel_rfl
theorem Qck (n : Nat) (hn : n <= 1000) (w : World) : (Instr.makeSlice 119 (.int .i64 n) (.int .i64 n)).run Tryz.prog w = .ok (.slice (some ⟨w.heap.size, 0, none⟩) n n) (w.alloc (.cells (madeCells #[.int .i64 0] n) 3)) :=
 run_make_row' 119 3 (.int .i64 0) 8 Tryz.underRow Tryz.infoRow rfl .i64 .i64 n (by omega) (by omega) w
theorem Qc2 (n : Int) (hn : small n) (w : World) : Calls Tryz.prog 128 #[.int .i64 n] w fun e w' => e = .returned (.int .i64 (n.natAbs : Int)) /\ w' = w := by
 have h1 := hn.1
 have h2 := hn.2
 by_cases h : n < 0
 ·have hv : Hid (-n = (n.natAbs : Int)) := by show _ = _; omega
  clear hn
  go_enter Tryz.func128, Tryz.ntmps128
  go_wp2
  go_ret
  exact ⟨by rw [← hv.out]; rfl, rfl⟩
 have hv : Hid (n = (n.natAbs : Int)) := by show _ = _; omega
 clear hn
 go_enter Tryz.func128, Tryz.ntmps128
 go_wp2
 go_ret
 exact ⟨by (rw [← hv.out]) <;> rfl, rfl⟩
theorem Qc3 (f : Nat -> Nat) (k i : Nat) : upd (below f k) k (f k) i = below f (k + 1) i := by
 unfold upd below
 by_cases h : i = k
 ·subst h; rw [iP rfl, iP (by omega)]
 rw [iN h]
 by_cases h2 : i < k
 ·rw [iP h2, iP (by omega)]
 rw [iN h2, iN (by omega)]
theorem Qcl (x : Nat) (hx : x <= 999999999999) (w : World) : Calls Tryz.prog 127 #[.int .i64 x, .int .i64 12] w fun e w' => e = .returned (.slice (some ⟨w.heap.size, 0, none⟩) 12 12) /\ DRow w' w.heap.size 0 12 (dg x) /\ Bel w w' := by
 have hmk : ∀ w, (Instr.makeSlice 119 (.int .i64 12) (.int .i64 12)).run Tryz.prog w = .ok (.slice (some ⟨w.heap.size, 0, none⟩) 12 12) (w.alloc (.cells (madeCells #[.int .i64 0] 12) 3)) := Qck 12 (by omega)
 go_enter Tryz.func127, Tryz.ntmps127
 go_wp2
 have hD := Qcj w 12 3
 have hb := (Bel.refl w).alloc (.cells (madeCells #[.int .i64 0] 12) 3)
 go_loopg [0, 6] 12 (fun g z i wr => ∃ k : Nat, k <= 12 /\ z = .int .i64 ((x / 10 ^ k : Nat) : Int) /\ i = .int .i64 k /\ Hid (g = 12 - k) /\ DRow wr w.heap.size 0 12 (below (dg x) k) /\ Bel w wr)
 case atStart => exact ⟨0, by omega, by simp, rfl, rfl, hD.ext fun i hi => by simp [below], hb⟩
 case round =>
  clear hD hb hmk
  obtain ⟨k, hk, rfl, rfl, hh, hD, hb⟩ := hrel
  have hkk : (k : Int) <= 12 := by omega
  by_cases hlt : k < 12
  ·obtain ⟨c1, c2⟩ := hD.at0 hlt
   have hle : ((x / 10 ^ k : Nat) : Int) <= 999999999999 := by have := Nat.div_le_self x (10 ^ k); omega
   have E := Hd (show (((x / 10 ^ k : Nat) : Int) % 10 = ((dg x k : Nat) : Int)) /\ ((x / 10 ^ k : Nat) : Int) / 10 = ((x / 10 ^ (k + 1) : Nat) : Int) from ⟨by rw [dg]; omega, by rw [Qb1]; omega⟩)
   generalize x / 10 ^ k = z at *
   go_wp2
   go_roundg (gk - 1)
   case measure => have := hh.out; omega
   case rel => exact ⟨k + 1, by omega, by rw [E.out.2], by go_num, (show _ = _ by have := hh.out; omega), by rw [E.out.1]; exact (hD.put k (dg x k) hlt).ext fun i _ => Qc3 _ _ _, hb.setCell (Nat.le_refl _) _⟩
  obtain rfl : k = 12 := by omega
  go_wp2
  go_ret
  exact ⟨rfl, hD.ext fun i hi => by simp [below, hi], hb⟩
theorem Qie (n : Nat) (h0 : 0 < n) (hn : n <= 60) (b1 o1 cc b2 x y : Nat) (w : World) (hx : DRow w b1 o1 n (dg x)) (hy : DRow w b2 0 n (dg y)) :
  Calls Tryz.prog 125 #[.slice (some ⟨b1, o1, none⟩) n cc, .slice (some ⟨b2, 0, none⟩) n n] w fun e w' => e = .returned (.slice (some ⟨w.heap.size, 0, none⟩) n n) /\ DRow w' w.heap.size 0 n (dg (x + y)) /\ Bel w w' := by
 have hmk : ∀ w, (Instr.makeSlice 119 (.int .i64 n) (.int .i64 n)).run Tryz.prog w = .ok (.slice (some ⟨w.heap.size, 0, none⟩) n n) (w.alloc (.cells (madeCells #[.int .i64 0] n) 3)) := Qck n (by omega)
 go_enter Tryz.func125, Tryz.ntmps125
 go_wp2
 have hD := Qcj w n 3
 have hb := (Bel.refl w).alloc (.cells (madeCells #[.int .i64 0] n) 3)
 have hnn : (n : Int) <= 60 := by omega
 go_loopg [6, 7] n (fun g c i wr => ∃ k : Nat, k <= n /\ c = .int .i64 ((car x y k : Nat) : Int) /\ i = .int .i64 k /\ Hid (g = n - k) /\ DRow wr w.heap.size 0 n (below (dg (x + y)) k) /\ Bel w wr)
 case atStart => exact ⟨0, by omega, by rw [Qxf]; rfl, rfl, rfl, hD.ext fun i hi => by simp [below], hb⟩
 case round =>
  clear hD hb hmk
  obtain ⟨k, hk, rfl, rfl, hh, hD, hb⟩ := hrel
  by_cases hlt : k < n
  ·obtain ⟨c1, c2⟩ := hD.at0 hlt
   obtain ⟨c3, -⟩ := (hx.keep hb).2 k hlt
   obtain ⟨c5, -⟩ := (hy.keep hb).at0 hlt
   have d1 : ((dg x k : Nat) : Int) <= 9 := by have := Qer x k; omega
   have d2 : ((dg y k : Nat) : Int) <= 9 := by have := Qer y k; omega
   have d3 : ((car x y k : Nat) : Int) <= 1 := by have := Qwq x y k; omega
   have E := Hd (show ((((dg x k : Nat) : Int) + (dg y k : Nat) + (car x y k : Nat)) % 10 = ((dg (x + y) k : Nat) : Int)) /\ (((dg x k : Nat) : Int) + (dg y k : Nat) + (car x y k : Nat)) / 10 = ((car x y (k + 1) : Nat) : Int) from
    ⟨by rw [← Ql0]; omega, by rw [← Ql1]; omega⟩)
   generalize hp : dg x k = p at *
   generalize hq : dg y k = q at *
   generalize hr : car x y k = r at *
   clear hp hq hr
   have i1 : (0 : Int) <= k := by omega
   have i2 : (k : Int) < n := by omega
   go_wp2
   go_quiet (fail)
   go_wp2
   go_roundg (gk - 1)
   case measure => have := hh.out; omega
   case rel => exact ⟨k + 1, by omega, by rw [E.out.2], by go_num, (show _ = _ by have := hh.out; omega), by rw [E.out.1]; exact ((hD.drewN _).put k (dg (x + y) k) hlt).ext fun i _ => Qc3 _ _ _, (hb.drewN _).setCell (Nat.le_refl _) _⟩
  obtain rfl : k = n := by omega
  go_wp2
  go_ret
  exact ⟨rfl, hD.ext fun i hi => by simp [below, hi], hb⟩
def RowOut (n m : Nat) (w : World) (e : Ending) (w' : World) : Prop := ∃ g, e = .returned (.slice (some ⟨g, 0, none⟩) n n) /\ w.heap.size <= g /\ DRow w' g 0 n (dg m) /\ Bel w w'
theorem Qpa (n : Nat) (h0 : 0 < n) (hn : n <= 60) (b1 o1 cc b2 x y : Nat) (w : World) (hx : DRow w b1 o1 n (dg x)) (hy : DRow w b2 0 n (dg y)) :
  Calls Tryz.prog 125 #[.slice (some ⟨b1, o1, none⟩) n cc, .slice (some ⟨b2, 0, none⟩) n n] w (RowOut n (x + y) w) :=
 (Qie n h0 hn b1 o1 cc b2 x y w hx hy).mono fun e w' ⟨he, h1, h2⟩ => ⟨_, he, Nat.le_refl _, h1, h2⟩
def rnd (V k : Nat) : Nat := if 6 < k then heven V (10 ^ (k - 6)) else V
def upOf (V k : Nat) : Nat := if 5 < dg V (k - 1) \/ (dg V (k - 1) = 5 /\ (0 < V % 10 ^ (k - 1) \/ dg V k % 2 = 1)) then 1 else 0
theorem Qrt {V k : Nat} (h : 5 < dg V (k - 1) \/ (dg V (k - 1) = 5 /\ (0 < V % 10 ^ (k - 1) \/ dg V k % 2 = 1))) : upOf V k = 1 := iP h
theorem Qu5 {V k : Nat} (h : ¬ (5 < dg V (k - 1) \/ (dg V (k - 1) = 5 /\ (0 < V % 10 ^ (k - 1) \/ dg V k % 2 = 1)))) : upOf V k = 0 := iN h
theorem Qwr {V k : Nat} (h : 6 < k) : V / 10 ^ (k - 6) + upOf V (k - 6) = rnd V k := by
 rw [rnd, iP h]; exact Qid V (k - 6) (by omega)
theorem Qws (u i : Nat) (h : u < 10) : upd (fun _ => 0) 0 u i = dg u i := by
 unfold upd
 by_cases hi : i = 0
 ·subst hi; rw [iP rfl, Qfa, Nat.mod_eq_of_lt h]
 rw [iN hi, Qrs _ _ h (by omega)]
theorem Qu6 {bl : Bool} {M S m s : Nat} (h : trim M S = (m, s)) : decV bl M S = if 999999999999 < m then .tuple #[.agg #[.int .i64 0, .int .i64 0], .int .i64 3]
 else .tuple #[.agg #[.int .i64 (if bl = true then -(m : Int) else m), .int .i64 (s : Nat)], .int .i64 0] := by rw [decV, h]
theorem Qpb {V o u : Nat} (hV : V < 10 ^ 50) (ho : o <= 24) (hu : u <= 1) : V / 10 ^ o + u < 10 ^ (60 - o) := by
 have h1 : V / 10 ^ o < 10 ^ (50 - o) := by
  rw [Nat.div_lt_iff_lt_mul (p10 o), ← Nat.pow_add, show 50 - o + o = 50 by omega]; exact hV
 have h2 : 10 ^ (60 - o) = 10 ^ (50 - o) * 10 ^ 10 := by rw [← Nat.pow_add, show 50 - o + 10 = 60 - o by omega]
 have h3 := p10 (50 - o)
 omega
theorem Qu7 {w : World} {b o N V : Nat} (h : DRow w b 0 60 (dg V)) (ho : o + N = 60) : DRow w b o N (dg (V / 10 ^ o)) := by
 have := h.tail o (by omega)
 rw [Nat.zero_add, show 60 - o = N by omega] at this
 exact this.ext fun i _ => (Qfb V o i).symm
theorem Qru {w : World} {g o n m : Nat} (h : DRow w g o n (dg m)) (hn : 1 <= n) : DRow w g (o + 1) (n - 1) (dg (m / 10)) :=
 (h.tail 1 hn).ext fun i _ => by have := Qfb m 1 i; rw [Nat.pow_one] at this; exact this.symm
theorem Qu8 {m k : Nat} (h : 999999999999 < m / 10 ^ k) : 999999999999 < m := lL h (Nat.div_le_self _ _)
theorem Qhg (V k : Nat) (bl : Bool) (b : Nat) (hV : V < 10 ^ 50) (hk : k <= 30) (w : World) (hrow : DRow w b 0 60 (dg V)) :
  Calls Tryz.prog 124 #[.slice (some ⟨b, 0, none⟩) 60 60, .int .i64 k, .bool bl] w fun e w' => e = .returned (decV bl (rnd V k) (min k 6)) /\ Bel w w' := by
 have hk' : (k : Int) <= 30 := by omega
 have HV := Hd hV
 have HK := Hd hk
 clear hV hk
 go_enter Tryz.func124, Tryz.ntmps124
 go_upto_if 20 with (fail)
 refine uN ((Bel.refl w).alloc _) fun W hc hf hz hb => ?_
 have hR : Sl2 W w.heap.size 0 0 := by simp [Sl2, Arr2, Fr2, hz, hc, hf, go_sem]
 clear hc hf hz
 go_cut [0, 1, 9] (fun r bh u wx => ∃ o N up : Nat, r = .slice (some ⟨b, o, none⟩) N N /\ bh = .int .i64 ((min k 6 : Nat) : Int) /\ u = .int .i64 up /\ Hid (o + N = 60 /\ o <= 24 /\ up <= 1 /\ V / 10 ^ o + up = rnd V k) /\ Sl2 wx w.heap.size 0 0 /\ Bel w wx)
 case first =>
  by_cases h6 : 6 < k
  ·have k1 : (6 : Int) < k := by omega
   go_wp2_with fail
   go_loopg [10, 11] (k - 7) (fun g x10 x11 wr => ∃ i r : Nat, x10 = .int .i64 r /\ x11 = .int .i64 i /\ Hid (r <= 9 * i /\ (0 < r ↔ 0 < V % 10 ^ i) /\ i <= k - 7 /\ g = k - 7 - i) /\ wr = W)
   case atStart => exact ⟨0, 0, rfl, rfl, ⟨by omega, by simp [Nat.mod_one], by omega, rfl⟩, rfl⟩
   case round =>
    obtain ⟨i, r, rfl, rfl, hh, rfl⟩ := hrel
    obtain ⟨h1, h2, h3, -⟩ := hh.out
    have hkk := HK.out
    have i1 : (r : Int) <= 300 := by omega
    by_cases hlt : (i : Int) < k - 7
    ·obtain ⟨c1, -⟩ := (hrow.keep hb).at0 (show i < 60 by omega)
     have d1 : ((dg V i : Nat) : Int) <= 9 := by have := Qer V i; omega
     have E : Hid (0 < r + dg V i ↔ 0 < V % 10 ^ (i + 1)) := by
      show _ ↔ _
      rw [Qe9]
      have h4 := p10 i
      rcases Nat.eq_zero_or_pos (dg V i) with h5 | h5
      ·rw [h5]; simpa using h2
      have := Nat.mul_pos h4 h5; omega
     have D := Hd d1
     generalize dg V i = d at *
     clear h1 h2 h3 hkk
     go_wp2
     go_roundg (gk - 1)
     case measure => have := hh.out; omega
     case rel => exact ⟨i + 1, r + d, by go_num, by go_num, ⟨by have := hh.out.1; have := D.out; omega, E.out, by omega, by have := hh.out.2.2.2; omega⟩, rfl⟩
    obtain ⟨c1, -⟩ := (hrow.keep hb).at0 (show k - 6 - 1 < 60 by omega)
    obtain ⟨c2, -⟩ := (hrow.keep hb).at0 (show k - 6 < 60 by omega)
    have d1 : ((dg V (k - 6 - 1) : Nat) : Int) <= 9 := by have := Qer V (k - 6 - 1); omega
    have d2 : ((dg V (k - 6) : Nat) : Int) <= 9 := by have := Qer V (k - 6); omega
    have hik : i = k - 6 - 1 := by omega
    have UY := Hd (Qrt (V := V) (k := k - 6))
    have UN := Hd (Qu5 (V := V) (k := k - 6))
    have RU := Hd (Qwr (V := V) h6)
    rw [hik] at h2
    have H2 := Hd h2
    have hmn : Hid (min k 6 = 6) := by show _ = _; omega
    have j1 : (k : Int) - 6 - 1 <= i := by omega
    generalize dg V (k - 6 - 1) = d at *
    generalize dg V (k - 6) = e at *
    have fin : ∀ u : Nat, u <= 1 -> u = upOf V (k - 6) -> ∃ o N up : Nat, Value.slice (some ⟨b, k - 6, none⟩) (60 - (k - 6)) (60 - (k - 6)) = Value.slice (some ⟨b, o, none⟩) N N /\ Value.int .i64 6 = Value.int .i64 ((min k 6 : Nat) : Int) /\ Value.int .i64 (u : Nat) = Value.int .i64 up /\ Hid (o + N = 60 /\ o <= 24 /\ up <= 1 /\ V / 10 ^ o + up = rnd V k) /\ Sl2 wr w.heap.size 0 0 /\ Bel w wr :=
     fun u hu1 hu2 => ⟨k - 6, 60 - (k - 6), u, rfl, by rw [hmn.out]; rfl, rfl, ⟨by omega, by omega, hu1, by rw [hu2]; exact RU.out⟩, hR, hb⟩
    have FIN := Hd fin
    clear fin h1 h2 h3 hkk hik
    by_cases a1 : (5 : Int) < d
    ·have L := Hd (UY.out (.inl (by omega)))
     go_wp2
     go_meet
     exact FIN.out 1 (by omega) L.out.symm
    by_cases a2 : d = 5
    ·subst a2
     by_cases a3 : (0 : Int) < r
     ·have L := Hd (UY.out (.inr ⟨rfl, .inl (H2.out.1 (by omega))⟩))
      go_wp2
      go_meet
      exact FIN.out 1 (by omega) L.out.symm
     have a4 : ¬ 0 < V % 10 ^ (k - 6 - 1) := fun h => a3 (by have := H2.out.2 h; omega)
     by_cases a5 : e % 2 = 1
     ·have L := Hd (UY.out (.inr ⟨rfl, .inr a5⟩))
      have a6 : ((e : Int) % 2 == 1) = true := by rw [beq_iff_eq]; omega
      have a7 : (e : Int) % 2 = 1 := by omega
      clear a4 a5
      go_wp2
      go_meet
      exact FIN.out 1 (by omega) L.out.symm
     have L := Hd (UN.out (by rintro (h | ⟨-, h | h⟩) <;> omega))
     have a6 : ((e : Int) % 2 == 1) = false := by rw [bN]; omega
     have a7 : ¬ (e : Int) % 2 = 1 := by omega
     clear a4 a5
     go_wp2
     go_meet
     exact FIN.out 0 (by omega) L.out.symm
    have L := Hd (UN.out (by rintro (h | ⟨h, -⟩) <;> omega))
    have a6 : ((d : Int) == 5) = false := by rw [bN]; omega
    have a7 : ¬ (d : Int) = 5 := by omega
    clear a2
    go_wp2
    go_meet
    exact FIN.out 0 (by omega) L.out.symm
  have hm : Hid (min k 6 = k) := by show min k 6 = k; omega
  have hr : Hid (rnd V k = V) := iN h6
  have k1 : (k : Int) <= 6 := by omega
  go_wp2_with fail
  go_meet
  exact ⟨0, 60, 0, rfl, by rw [hm.out], rfl, ⟨rfl, by omega, by omega, by rw [hr.out]; simp⟩, hR, hb⟩
 case rest =>
  obtain ⟨o, N, up, rfl, rfl, rfl, hh, hR, hb⟩ := hcut
  obtain ⟨g1, g2, g3, g4⟩ := hh.out
  have hmk : ∀ w, (Instr.makeSlice 119 (.int .i64 N) (.int .i64 N)).run Tryz.prog w = .ok (.slice (some ⟨w.heap.size, 0, none⟩) N N) (w.alloc (.cells (madeCells #[.int .i64 0] N) 3)) := Qck N (by omega)
  have hlt := hR.1.1
  have hMD := Qcj wc N 3
  have j1 : (N : Int) <= 60 := by omega
  have j2 : (36 : Int) <= N := by omega
  have j3 : (up : Int) <= 1 := by omega
  have j5 : (((min k 6 : Nat) : Int)) <= 6 := by omega
  obtain ⟨B, hB⟩ : ∃ B, B = min k 6 := ⟨_, rfl⟩
  rw [← hB] at j5 ⊢
  have HB := Hd hB
  have HRW := Hd hrow
  have HMD := Hd hMD
  have HN := Hd (And.intro g1 (And.intro g2 (And.intro g3 g4)))
  clear g1 g2 g3 g4 hMD hrow hB
  go_upto_region 16 with (fail)
  refine uN (hb.alloc _) fun W2 hc hf hz hb2 => ?_
  have hD2 := HMD.out.same hc hf hz
  have hne : ¬ w.heap.size = wc.heap.size := by omega
  have hne' : ¬ wc.heap.size = w.heap.size := by omega
  have hR2 : Sl2 W2 w.heap.size 0 0 := by
   refine ⟨⟨by rw [hz]; simp; omega, ?_, ?_⟩, ?_, ?_⟩
   all_goals simp [hc, hf, go_sem, hR, hne, hne']
  clear hc hf hz hmk hR hb
  obtain ⟨c1, c2⟩ := hD2.at0 (i := 0) (by have := HN.out.1; omega)
  have HD2 := Hd hD2
  have HP := Hd (fun W3 (h1 : DRow W3 b o N (dg (V / 10 ^ o))) (h2 : DRow W3 wc.heap.size 0 N (dg up)) => Qpa N (by omega) (by omega) b o N wc.heap.size (V / 10 ^ o) up W3 h1 h2)
  clear hD2
  go_wp2_with fail
  have hb3 := hb2.setCell (p := ⟨wc.heap.size, 0, none⟩) (Nat.le_of_lt hlt) (.int .i64 (up : Nat))
  have hR3 : Sl2 (W2.setCell ⟨wc.heap.size, 0, none⟩ (.int .i64 (up : Nat))) w.heap.size 0 0 := by simp [Sl2, Arr2, Fr2, go_sem, hR2, hne, hne']
  obtain ⟨q1, q2, q3, q4⟩ := HN.out
  refine (HP.out _ (Qu7 (HRW.out.keep hb3) q1) ((HD2.out.put 0 up (by omega)).ext fun i _ => Qws up i (by omega))).mono ?_
  rintro e W3 ⟨g, rfl, hg, hD, hb4⟩
  have hR4 := hR3.keep hb4
  have hb5 := hb3.trans hb4
  have hM : V / 10 ^ o + up < 10 ^ N := by have := Qpb HV.out q2 q3; rwa [show 60 - o = N by omega] at this
  obtain ⟨M, hMe⟩ : ∃ M, M = rnd V k := ⟨_, rfl⟩
  rw [q4, ← hMe] at hD hM
  have FV := Hd (show decV bl (rnd V k) (min k 6) = decV bl M B by rw [← hMe, ← HB.out])
  have hgW : w.heap.size < g := by have := hR3.1.1; omega
  have HM := Hd (And.intro hM q1)
  have HG := Hd (And.intro hD hgW)
  have q5 := hR4.1.1
  have q6 := hD.1
  clear hM hMe hh HN q1 q2 q3 q4 hD hgW hb3 hb4 hR3 hR2 hb2 HP HD2 c1 c2 hne hne' hg HMD HRW hlt
  go_wp2_with fail
  go_loopg [0, 1] B (fun gk r x wr => ∃ m s o1 n : Nat, r = .slice (some ⟨g, o1, none⟩) n n /\ x = .int .i64 s /\ Hid (trim M B = trim m s /\ n + B = N + s /\ s <= B /\ gk = s /\ m < 10 ^ n) /\ Hid (DRow W3 g o1 n (dg m)) /\ wr = W3)
  case atStart => exact ⟨M, B, 0, N, rfl, rfl, ⟨rfl, by omega, by omega, rfl, HM.out.1⟩, HG.out.1, rfl⟩
  case round =>
   obtain ⟨m, s, o1, n, rfl, rfl, hh, HDD, rfl⟩ := hrel
   obtain ⟨h1, h2, h3, -, h5⟩ := hh.out
   have j6 : (30 : Int) <= n := by omega
   have j7 : (n : Int) <= 60 := by omega
   have hD := HDD.out
   obtain ⟨c1, -⟩ := hD.2 0 (by omega)
   rw [Nat.add_zero, Qfa] at c1
   have fin : (s = 0 \/ m % 10 ≠ 0) -> trim M B = (m, s) := fun h => by
    rw [h1]
    rcases h with h | h
    ·subst h; rfl
    exact Qdw _ _ h
   have FIN := Hd fin
   have H5 := Hd h5
   clear fin h1 h2 h5 hD
   by_cases hgo : (0 : Int) < s /\ m % 10 = 0
   ·obtain ⟨hs, hm⟩ := hgo
    rw [hm] at c1
    have HM0 := Hd hm
    have NX := Hd (Qru HDD.out (by omega))
    have j8 : (s : Int) <= 6 := by omega
    clear hm h3
    go_wp2
    go_roundg (gk - 1)
    case measure => have := hh.out.2.2.2.1; omega
    case rel =>
     obtain ⟨r1, r2, r3, r4, r5⟩ := hh.out
     refine ⟨m / 10, s - 1, o1 + 1, n - 1, rfl, by go_num, ⟨?_, by omega, by omega, by omega, ?_⟩, NX.out, rfl⟩
     ·rw [r1]
      obtain ⟨s', rfl⟩ : ∃ s', s = s' + 1 := ⟨s - 1, by omega⟩
      rw [Qcn _ _ HM0.out]; rfl
     have e : 10 ^ n = 10 * 10 ^ (n - 1) := by rw [show n = (n - 1) + 1 by omega, Nat.pow_succ, Nat.mul_comm]; rfl
     omega
   have L := Hd (FIN.out (by omega))
   have HF := Hd (FV.out.trans (Qu6 (bl := bl) L.out))
   have hcase : ((0 : Int) < s /\ (((m % 10 : Nat) : Int) == 0) = false /\ ¬ ((m % 10 : Nat) : Int) = 0) \/ ¬ (0 : Int) < s := by
    by_cases hs : (0 : Int) < s
    ·have : m % 10 ≠ 0 := fun h => hgo ⟨hs, h⟩
     exact .inl ⟨hs, by rw [bN]; omega, by omega⟩
    exact .inr hs
   have j8 : (s : Int) <= 6 := by omega
   clear hgo h3 FIN
   obtain ⟨wo, rfl⟩ : ∃ wo : World, wo = wr := ⟨_, rfl⟩
   rcases hcase with ⟨hs, e1, e2⟩ | hs
   all_goals
    go_wp2_with fail
    go_loopg [15, 16] n (fun gk x15 x16 wr => ∃ (q : Nat) (z : Int), x15 = .int .i64 ((m / 10 ^ q : Nat) : Int) /\ x16 = .int .i64 z /\ Hid (z = (q : Int) - 1 /\ q <= n /\ gk = q) /\ wr = wo)
    case atStart => exact ⟨n, (n : Int) - 1, by rw [Nat.div_eq_of_lt H5.out]; rfl, rfl, ⟨rfl, Nat.le_refl _, rfl⟩, rfl⟩
    case round =>
     obtain ⟨q, z, rfl, rfl, hh2, rfl⟩ := hrel
     obtain ⟨hz, hqn, -⟩ := hh2.out
     by_cases hq0 : q = 0
     ·subst hq0
      obtain rfl : z = -1 := by omega
      clear hz hqn
      rw [Nat.pow_zero, Nat.div_one]
      by_cases hbig : (999999999999 : Int) < m
      ·have HV2 := Hd (HF.out.trans (iP (by omega)))
       go_wp2
       refine pR (by simp [results, Tryz.results124, go_sem, hR4]; try rfl) rfl ⟨by (rw [HV2.out]) <;> rfl, ?_⟩
       exact Bel.y
      have HV2 := Hd (HF.out.trans (iN (by omega)))
      cases bl
      ·go_wp2
       refine pR (by simp [results, Tryz.results124, go_sem, hR4]; try rfl) rfl ⟨by (rw [HV2.out]) <;> rfl, ?_⟩
       exact Bel.y
      go_wp2
      refine pR (by simp [results, Tryz.results124, go_sem, hR4]; try rfl) rfl ⟨by (rw [HV2.out]) <;> rfl, ?_⟩
      exact Bel.y
     obtain ⟨j, rfl⟩ : ∃ j, q = j + 1 := ⟨q - 1, by omega⟩
     obtain rfl : z = (j : Int) := by omega
     obtain ⟨c2, -⟩ := HDD.out.2 j (by omega)
     have j9 : (j : Int) < n := by omega
     have d1 : ((dg m j : Nat) : Int) <= 9 := by have := Qer m j; omega
     have E := Hd (Qcc m j)
     have BG := Hd (fun h : 999999999999 < m / 10 ^ (j + 1) => HF.out.trans (iP (Qu8 h)))
     clear hz hqn hq0
     generalize m / 10 ^ (j + 1) = y at *
     generalize dg m j = d at *
     by_cases hbig : (999999999999 : Int) < y
     ·have HV2 := Hd (BG.out (by omega))
      go_wp2
      refine pR (by simp [results, Tryz.results124, go_sem, hR4]; try rfl) rfl ⟨by (rw [HV2.out]) <;> rfl, ?_⟩
      exact Bel.y
     have j10 : (y : Int) <= 999999999999 := by omega
     clear hbig
     go_wp2
     go_roundg (gk - 1)
     case measure => have := hh2.out.2.2; omega
     case rel => exact ⟨j, (j : Int) - 1, by rw [E.out]; go_num, rfl, ⟨rfl, by omega, by have := hh2.out.2.2; omega⟩, rfl⟩
theorem Qu9 (n s : Int) : (unt n s).natAbs = n.natAbs * P10 (6 - s).toNat := by
 unfold unt
 rw [Int.natAbs_mul]; rfl
theorem Qec (n s : Int) : (unt n s < 0 ↔ n < 0) /\ (unt n s = 0 ↔ n = 0) := by
 have hp := Qdn (6 - s).toNat
 unfold unt
 generalize P10 (6 - s).toNat = p at *
 constructor
 ·constructor
  ·intro h
   rcases Int.lt_or_le n 0 with h1 | h1
   ·exact h1
   have := Int.mul_nonneg h1 (show (0 : Int) <= p by omega); omega
  intro h
  exact Int.mul_neg_of_neg_of_pos h (by omega)
 rw [Int.mul_eq_zero]; omega
theorem Qif (f : Nat -> Nat) (k i : Nat) : upd (above f (k + 1)) k (f k) i = above f k i := by
 unfold upd above
 by_cases h : i = k
 ·subst h; rw [iP rfl, iP (by omega)]
 rw [iN h]
 by_cases h2 : k <= i
 ·rw [iP (by omega), iP h2]
 rw [iN (by omega), iN h2]
theorem Qwt (q i : Nat) (h : q % 10 = 0) : upd (dg q) 0 1 i = dg (q + 1) i := by
 unfold upd
 by_cases hi : i = 0
 ·subst hi; rw [iP rfl, Qfa]; omega
 rw [iN hi]
 obtain ⟨j, rfl⟩ : ∃ j, i = j + 1 := ⟨i - 1, by omega⟩
 have h1 := Qfb q 1 j
 have h2 := Qfb (q + 1) 1 j
 rw [Nat.add_comm 1 j] at h1 h2
 rw [← h1, ← h2, Nat.pow_one]
 congr 1
 omega
def sticky (N b : Nat) : Nat := if 0 < N % b /\ N / b % 10 = 0 then N / b + 1 else N / b
theorem Ql3 (x b s t : Nat) (hb : 0 < b) (hs : s <= 6) (ht : t <= 6) : rnd (sticky (x * 10 ^ 20) b) (20 + s - t) = heven (x * P10 (t + 6)) (b * P10 s) := by
 have h1 := Qib (x * 10 ^ 20) b (14 + s - t) hb (by omega)
 unfold rnd
 rw [iP (by omega), show 20 + s - t - 6 = 14 + s - t by omega]
 have h2 := Qia (x * P10 (t + 6)) (b * P10 s) (10 ^ (14 - t)) (p10 _)
 have e1 : x * P10 (t + 6) * 10 ^ (14 - t) = x * 10 ^ 20 := by
  unfold P10
  rw [Nat.mul_assoc, ← Nat.pow_add, show t + 6 + (14 - t) = 20 by omega]
 have e2 : b * P10 s * 10 ^ (14 - t) = b * 10 ^ (14 + s - t) := by
  unfold P10
  rw [Nat.mul_assoc, ← Nat.pow_add, show s + (14 - t) = 14 + s - t by omega]
 rw [e1, e2] at h2
 exact h1.trans h2
theorem Qpc {N b : Nat} (h : N < 10 ^ 32) : sticky N b < 10 ^ 50 := by
 have := Nat.div_le_self N b
 unfold sticky
 split <;> omega
theorem Qva (x i : Nat) : dg (x * 10 ^ 20) i = if 20 <= i then dg x (i - 20) else 0 := by
 by_cases h : 20 <= i
 ·rw [iP h]
  have := Qwp x 20 (i - 20)
  rwa [show i - 20 + 20 = i by omega] at this
 rw [iN h]; exact Qs1 x 20 i (by omega)
theorem Qrv {f : Nat -> Nat} {X Y i k : Nat} (hi : i < 12) (hk : k < 12) (h : tv f 0 60 = X % 10 ^ i * Y + dg X i * 10 ^ i * (Y % 10 ^ k)) :
  tv (upd f (i + k) (f (i + k) + dg X i * dg Y k)) 0 60 = X % 10 ^ i * Y + dg X i * 10 ^ i * (Y % 10 ^ (k + 1)) := by
 have e : dg X i * dg Y k * 10 ^ (i + k - 0) = dg X i * 10 ^ i * (10 ^ k * dg Y k) := by
  rw [Nat.sub_zero, Nat.pow_add]
  generalize 10 ^ i = p
  generalize 10 ^ k = q
  generalize dg X i = a
  generalize dg Y k = b
  rw [Nat.mul_assoc, Nat.mul_assoc, Nat.mul_left_comm b p q, Nat.mul_comm b q]
 rw [Qgh 60 f 0 (i + k) _ (by omega) (by omega), h, Qe9 Y k, e, Nat.mul_add, Nat.add_assoc]
theorem Qvb {f : Nat -> Nat} {X Y i : Nat} (hY : Y < 10 ^ 12) (h : tv f 0 60 = X % 10 ^ i * Y + dg X i * 10 ^ i * (Y % 10 ^ 12)) : tv f 0 60 = X % 10 ^ (i + 1) * Y := by
 rw [h, Qe9 X i, Nat.mod_eq_of_lt hY, Nat.add_mul, Nat.mul_comm (dg X i)]
def MB (f : Nat -> Nat) (i k : Nat) : Prop := (∀ j, f j <= 81 * (i + 1)) /\ ∀ j, i + k <= j -> f j <= 81 * i
theorem MB.start {f : Nat -> Nat} {i : Nat} (h : ∀ j, f j <= 81 * i) : MB f i 0 := ⟨fun j => by have := h j; omega, fun j _ => h j⟩
theorem MB.step {f : Nat -> Nat} {i k d : Nat} (h : MB f i k) (hd : d <= 81) : MB (upd f (i + k) (f (i + k) + d)) i (k + 1) := by
 constructor
 ·intro j
  unfold upd
  by_cases hj : j = i + k
  ·rw [iP hj]; have := h.2 (i + k) (by omega); omega
  rw [iN hj]; exact h.1 j
 intro j hj
 rw [Qeb _ _ _ _ (by omega)]
 exact h.2 j (by omega)
theorem CB.start {f : Nat -> Nat} {P : Nat} (h : tv f 0 60 = P) (hf : ∀ j, f j <= 972) : CB f P 0 :=
 ⟨fun j hj => by omega, by simpa using h, by have := hf 0; omega, fun j _ => hf j⟩
theorem CB.step {f : Nat -> Nat} {P i : Nat} (h : CB f P i) (hi : i < 59) : CB (upd (upd f (i + 1) (f (i + 1) + f i / 10)) i (f i % 10)) P (i + 1) := by
 obtain ⟨h1, h2, h3, h4⟩ := h
 rw [show 60 - i = (59 - i) + 1 by omega, tv] at h2
 have h5 : f i % 10 = dg P i := by rw [dg]; omega
 refine ⟨fun j hj => ?_, ?_, ?_, fun j hj => ?_⟩
 ·by_cases hji : j = i
  ·subst hji; rw [Qk1]; exact h5
  rw [Qeb _ _ _ _ hji, Qeb _ _ _ _ (by omega)]; exact h1 j (by omega)
 ·rw [Qgg _ _ _ _ _ (by omega), show 60 - (i + 1) = 59 - i by omega, Qgh (59 - i) f (i + 1) (i + 1) _ (by omega) (by omega), Qb1, ← h2]
  simp; omega
 ·rw [Qeb _ _ _ _ (by omega), Qk1]; have := h4 (i + 1) (by omega); omega
 rw [Qeb _ _ _ _ (by omega), Qeb _ _ _ _ (by omega)]; exact h4 j (by omega)
theorem CB.done {f : Nat -> Nat} {P : Nat} (h : CB f P 59) (hP : P < 10 ^ 50) : ∀ j, j < 60 -> f j = dg P j := by
 intro j hj
 by_cases h9 : j < 59
 ·exact h.1 j h9
 obtain rfl : j = 59 := by omega
 have h2 := h.2.1
 have e : P / 10 ^ 59 = 0 := Nat.div_eq_of_lt (by omega)
 rw [e] at h2
 simp only [tv] at h2
 rw [dg, e]; omega
theorem Qvc {x y s t : Nat} : rnd (x * y) (s + t) = if s + t <= 6 then x * y else heven (x * y) (P10 (s + t - 6)) := by
 unfold rnd P10
 by_cases h : s + t <= 6
 ·rw [iN (by omega), iP h]
 rw [iP (by omega), iN h]
theorem Qk2 {x y : Nat} (hx : x <= 999999999999) (hy : y <= 999999999999) : x * y < 10 ^ 50 := by
 have := Nat.mul_le_mul hx hy
 omega
theorem Arr2.other {w : World} {b : Nat} {x y : Int} (h : Arr2 w b x y) {a : Addr} (ha : b ≠ a.block) (v : Value) : Arr2 (w.setCell a v) b x y := by
 obtain ⟨h1, h2, h3⟩ := h
 refine ⟨by simpa using h1, ?_, ?_⟩
 ·rw [← h2]; exact World.cell?_of_block (Deep.blk_setCell_other _ _ _ _ ha)
 rw [← h3]; exact World.cell?_of_block (Deep.blk_setCell_other _ _ _ _ ha)
theorem Sl2.other {w : World} {b : Nat} {x y : Int} (h : Sl2 w b x y) {a : Addr} (ha : b ≠ a.block) (v : Value) : Sl2 (w.setCell a v) b x y := by
 obtain ⟨h1, h2, h3⟩ := h
 refine ⟨h1.other ha v, ?_, ?_⟩
 ·rw [← h2]; exact World.frozen?_of_block (Deep.blk_setCell_other _ _ _ _ ha)
 rw [← h3]; exact World.frozen?_of_block (Deep.blk_setCell_other _ _ _ _ ha)
def Mul3 (w wr : World) (g gx gy : Nat) (X Y : Nat) (n s m t : Int) : Prop :=
 Arr2 wr w.heap.size n s /\ Arr2 wr (w.heap.size + 1) m t /\ Sl2 wr (w.heap.size + 1 + 1) 0 0 /\ DRow wr gx 0 12 (dg X) /\ DRow wr gy 0 12 (dg Y) /\ Bel w wr
theorem Mul3.set {w wr : World} {g gx gy X Y : Nat} {n s m t : Int} (h : Mul3 w wr g gx gy X Y n s m t) (h1 : w.heap.size + 1 + 1 < g) (h2 : gx ≠ g) (h3 : gy ≠ g) (i : Nat) (v : Value) : Mul3 w (wr.setCell ⟨g, i, none⟩ v) g gx gy X Y n s m t := by
 obtain ⟨a, b, c, d, e, f⟩ := h
 refine ⟨a.other ?_ v, b.other ?_ v, c.other ?_ v, d.other h2 v, e.other h3 v, f.setCell ?_ v⟩
 ·show w.heap.size ≠ g; omega
 ·show w.heap.size + 1 ≠ g; omega
 ·show w.heap.size + 1 + 1 ≠ g; omega
 show w.heap.size <= g; omega
theorem Mul3.drew {w wr : World} {g gx gy X Y : Nat} {n s m t : Int} (h : Mul3 w wr g gx gy X Y n s m t) : Mul3 w wr.drew g gx gy X Y n s m t := by
 obtain ⟨a, b, c, d, e, f⟩ := h
 have k := (Bel.refl wr).drew
 exact ⟨a.keep k, b.keep k, c.keep k, d.keep k, e.keep k, f.drew⟩
theorem Qrw (n s m t : Int) : ∃ a b e, mulV n s m t = .tuple #[decA a b, .int .i64 e] := by
 unfold mulV
 split
 ·split
  ·exact Qco _ _ _
  exact Qco _ _ _
 exact ⟨_, _, _, rfl⟩
theorem Qrx (n s m t : Int) (h : SndD n s /\ SndD m t) (y : Bool) (hy : (decide (n < 0) != decide (m < 0)) = y) (X Y : Nat) (hX : X = n.natAbs) (hY : Y = m.natAbs) (g : Nat) (w : World) (hrow : DRow w g 0 60 (dg (X * Y))) :
  Calls Tryz.prog 124 #[.slice (some ⟨g, 0, none⟩) 60 60, .int .i64 (s + t), .bool y] w fun e w' => e = .returned (mulV n s m t) /\ Bel w w' := by
 have hs := h.1.1
 have hs6 := h.1.2.1
 have ht := h.2.1
 have ht6 := h.2.2.1
 have hb : X * Y < 10 ^ 50 := Qk2 (by have := h.1.2.2.1.1; have := h.1.2.2.1.2; omega) (by have := h.2.2.2.1.1; have := h.2.2.2.1.2; omega)
 have hd := Qhg (X * Y) (s.toNat + t.toNat) y g hb (by omega) w hrow
 rw [show ((s.toNat + t.toNat : Nat) : Int) = s + t by omega, Qvc] at hd
 rw [show mulV n s m t = _ from iP h, hy, ← hX, ← hY]
 by_cases h6 : s + t <= 6
 ·rw [iP h6]
  rw [iP (by omega), show min (s.toNat + t.toNat) 6 = (s + t).toNat by omega] at hd
  exact hd
 rw [iN h6]
 rw [iN (by omega), show min (s.toNat + t.toNat) 6 = 6 by omega, show s.toNat + t.toNat - 6 = (s + t - 6).toNat by omega] at hd
 exact hd
theorem Mul3.same {w wr W : World} {g gx gy X Y : Nat} {n s m t : Int} (h : Mul3 w wr g gx gy X Y n s m t) (hc : ∀ p, W.cell? p = wr.cell? p) (hf : ∀ p, W.frozen? p = wr.frozen? p) (hz : W.heap.size = wr.heap.size) (hb : Bel w W) : Mul3 w W g gx gy X Y n s m t := by
 obtain ⟨a, b, c, d, e, f⟩ := h
 refine ⟨⟨by rw [hz]; exact a.1, by rw [hc]; exact a.2.1, by rw [hc]; exact a.2.2⟩, ⟨by rw [hz]; exact b.1, by rw [hc]; exact b.2.1, by rw [hc]; exact b.2.2⟩, ⟨⟨by rw [hz]; exact c.1.1, by rw [hc]; exact c.1.2.1, by rw [hc]; exact c.1.2.2⟩, by rw [hf]; exact c.2.1, by rw [hf]; exact c.2.2⟩, d.same hc hf hz, e.same hc hf hz, hb⟩
theorem Mul3.keep {w wr W : World} {g gx gy X Y : Nat} {n s m t : Int} (h : Mul3 w wr g gx gy X Y n s m t) (k : Bel wr W) : Mul3 w W g gx gy X Y n s m t := by
 obtain ⟨a, b, c, d, e, f⟩ := h
 exact ⟨a.keep k, b.keep k, c.keep k, d.keep k, e.keep k, f.trans k⟩
theorem Qpd (n s m t : Int) (h : SndD n s /\ SndD m t) (w : World) : Calls Tryz.prog 85 #[decA n s, decA m t] w fun e w' => e = .returned (mulV n s m t) /\ Bel w w' := by
 have c1 := Hd fun w => Qai n s w
 have c2 := Hd fun w => Qai m t w
 have h1 := Hd (Qbf h.1)
 have h2 := Hd (Qbf h.2)
 have hmk : ∀ w, (Instr.makeSlice 119 (.int .i64 60) (.int .i64 60)).run Tryz.prog w = .ok (.slice (some ⟨w.heap.size, 0, none⟩) 60 60) (w.alloc (.cells (madeCells #[.int .i64 0] 60) 3)) := Qck 60 (by omega)
 have HS := Hd h
 have hx : n.natAbs <= 999999999999 := by have := h.1.2.2.1.1; have := h.1.2.2.1.2; omega
 have hy : m.natAbs <= 999999999999 := by have := h.2.2.2.1.1; have := h.2.2.2.1.2; omega
 have sz1 := Hd fun w => Qc2 n h.1.2.2.1 w
 have sz2 := Hd fun w => Qc2 m h.2.2.2.1 w
 obtain ⟨X, hX⟩ : ∃ X, X = n.natAbs := ⟨_, rfl⟩
 obtain ⟨Y, hY⟩ : ∃ Y, Y = m.natAbs := ⟨_, rfl⟩
 rw [← hX] at hx sz1
 rw [← hY] at hy sz2
 have HX := Hd (And.intro hX hx)
 have HY := Hd (And.intro hY hy)
 have dX := Hd fun w => Qcl X hx w
 have dY := Hd fun w => Qcl Y hy w
 have hmk' := Hd hmk
 clear h hx hy hX hY hmk
 go_enter Tryz.func85, Tryz.ntmps85
 go_wp2_with fail
 refine Qac ((((Bel.refl w).alloc _).alloc _).alloc _) fun W hc hf hz hb => ?_
 have hA : Arr2 W w.heap.size n s := by simp [Arr2, hz, hc, hf, go_sem]
 have hB : Arr2 W (w.heap.size + 1) m t := by simp [Arr2, hz, hc, hf, go_sem]
 have hR : Sl2 W (w.heap.size + 1 + 1) 0 0 := by simp [Sl2, Arr2, Fr2, hz, hc, hf, go_sem]
 clear hc hf hz
 go_wp2_with (first
  | (go_at_call 39; with_reducible refine (c1.out _).mono ?_; rintro e W1 ⟨rfl, hb1⟩; rw [h1.out]; replace hA := hA.keep hb1; replace hB := hB.keep hb1; replace hR := hR.keep hb1; replace hb := hb.trans hb1; clear hb1)
  | (go_at_call 39; with_reducible refine (c2.out _).mono ?_; rintro e W2 ⟨rfl, hb1⟩; rw [h2.out]; replace hA := hA.keep hb1; replace hB := hB.keep hb1; replace hR := hR.keep hb1; replace hb := hb.trans hb1; clear hb1))
 replace hA := hA.keep (Bel.refl _).drew; replace hB := hB.keep (Bel.refl _).drew; replace hR := hR.keep (Bel.refl _).drew; replace hb := hb.drew
 go_region_held3 (fun w' => Arr2 w' w.heap.size n s /\ Arr2 w' (w.heap.size + 1) m t) (first | with_reducible exact ⟨hA, hB⟩ | (simp (maxDischargeDepth := 20) [Arr2, go_sem, hA, hB]; first | done | omega))
  (first
   | (go_at_call 128; with_reducible refine (sz1.out _).mono ?_; rintro e V1 ⟨rfl, rfl⟩)
   | (go_at_call 128; with_reducible refine (sz2.out _).mono ?_; rintro e V1 ⟨rfl, rfl⟩)
   | (go_at_call 127; with_reducible refine (dX.out _).mono ?_; rintro e V2 ⟨rfl, hDx, hb1⟩; replace hA := hA.keep hb1; replace hB := hB.keep hb1; replace hR := hR.keep hb1; replace hb := hb.trans hb1; clear hb1)
   | (go_at_call 127; with_reducible refine (dY.out _).mono ?_; rintro e V3 ⟨rfl, hDy, hb1⟩; replace hDx := hDx.keep hb1; replace hA := hA.keep hb1; replace hB := hB.keep hb1; replace hR := hR.keep hb1; replace hb := hb.trans hb1; clear hb1))
 have hDx' : DRow V3 W2.heap.size 0 12 (dg X) := hDx
 have n1 := hR.1.1
 have n2 := hDx'.1
 have n3 := hDy.1
 have hM : Mul3 w V3 V3.heap.size W2.heap.size V1.heap.size X Y n s m t := ⟨hA, hB, hR, hDx', hDy, hb⟩
 have hmk := hmk'.out
 have hMD := Qcj V3 60 3
 have HMD := Hd hMD
 have HM := Hd (hM.keep ((Bel.refl V3).alloc (.cells (madeCells #[.int .i64 0] 60) 3)))
 clear hDx hDx' hDy hA hB hR hM hmk' hMD
 go_upto_region 5 with (fail)
 refine uN (hb.alloc _) fun W4 hc hf hz hb4 => ?_
 have hO := HMD.out.same hc hf hz
 have hM := HM.out.same hc hf hz hb4
 have NE := Hd (And.intro n1 (And.intro (show W2.heap.size ≠ V3.heap.size by omega) (show V1.heap.size ≠ V3.heap.size by omega)))
 generalize V3.heap.size = g at *
 generalize W2.heap.size = gx at *
 generalize V1.heap.size = gy at *
 clear hc hf hz hb4 hb HM HMD hmk n1 n2 n3
 go_wp2_with fail
 go_loopg [9] 12 (fun gk v wr => ∃ (i : Nat) (f : Nat -> Nat), v = .int .i64 i /\ i <= 12 /\ Hid (tv f 0 60 = X % 10 ^ i * Y /\ (∀ j, f j <= 81 * i) /\ gk = 12 - i) /\ DRow wr g 0 60 f /\ Mul3 w wr g gx gy X Y n s m t)
 case atStart => exact ⟨0, _, rfl, by omega, ⟨by rw [Qu4, Nat.pow_zero, Nat.mod_one, Nat.zero_mul], fun j => by omega, rfl⟩, hO, hM⟩
 case round =>
  clear hO hM
  obtain ⟨i, f, rfl, hi, hh, hO, hM⟩ := hrel
  by_cases hlt : i < 12
  ·have i1 : (i : Int) < 12 := by omega
   obtain ⟨wo, rfl⟩ : ∃ wo : World, wo = wr := ⟨_, rfl⟩
   go_wp2_with fail
   go_loopg [10] 12 (fun g2 v wr => ∃ (k : Nat) (f : Nat -> Nat), v = .int .i64 k /\ k <= 12 /\ Hid (tv f 0 60 = X % 10 ^ i * Y + dg X i * 10 ^ i * (Y % 10 ^ k) /\ MB f i k /\ g2 = 12 - k) /\ DRow wr g 0 60 f /\ Mul3 w wr g gx gy X Y n s m t)
   case atStart => exact ⟨0, f, rfl, by omega, ⟨by rw [hh.out.1, Nat.pow_zero, Nat.mod_one, Nat.mul_zero, Nat.add_zero], MB.start hh.out.2.1, rfl⟩, hO, hM⟩
   case round =>
    clear hO hM
    obtain ⟨k, f2, rfl, hk, hh2, hO, hM⟩ := hrel
    by_cases hlk : k < 12
    ·obtain ⟨c1, c2⟩ := hO.at0 (show i + k < 60 by omega)
     obtain ⟨c3, -⟩ := hM.2.2.2.1.at0 hlt
     obtain ⟨c5, -⟩ := hM.2.2.2.2.1.at0 hlk
     have k1 : (k : Int) < 12 := by omega
     have d1 := Qer X i
     have d2 := Qer Y k
     have b1 : f2 (i + k) <= 972 := by have := hh2.out.2.1.2 (i + k) (by omega); omega
     have hT : dg X i * dg Y k <= 81 := Nat.mul_le_mul (show dg X i <= 9 by omega) (show dg Y k <= 9 by omega)
     have NX := Hd (Qrv (f := f2) hlt hlk hh2.out.1)
     have NB := Hd (hh2.out.2.1.step (d := dg X i * dg Y k) hT)
     obtain ⟨T, hTT⟩ : ∃ T, T = dg X i * dg Y k := ⟨_, rfl⟩
     rw [← hTT] at hT NX NB
     have w1 : IntKind.i64.wrap (((dg X i : Nat) : Int) * ((dg Y k : Nat) : Int)) = (T : Int) := by rw [← Int.natCast_mul, ← hTT, IntKind.wrap_i64]; omega
     have b2 : ((f2 (i + k) : Nat) : Int) <= 972 := by omega
     have b3 : (T : Int) <= 81 := by omega
     obtain ⟨F, hF⟩ : ∃ F, F = f2 (i + k) := ⟨_, rfl⟩
     have HF := Hd hF
     rw [← hF] at c1 b2
     have HO := Hd hO
     have HM := Hd hM
     generalize hp : dg X i = p at *
     generalize hq : dg Y k = q at *
     clear d1 d2 b1 hT hTT hF hp hq hO hM
     go_wp2
     go_region
     go_wp2
     go_roundg (gk - 1)
     case measure => have := hh2.out.2.2; omega
     case rel =>
      obtain ⟨q1, q2, q3⟩ := NE.out
      refine ⟨k + 1, upd f2 (i + k) (F + T), by go_num, by omega, ⟨by rw [HF.out]; exact NX.out, by rw [HF.out]; exact NB.out, by have := hh2.out.2.2; omega⟩, ?_, (HM.out.set q1 q2 q3 _ _).drew⟩
      rw [← Int.natCast_add]
      exact (HO.out.put (i + k) _ (by omega)).drew
    obtain rfl : k = 12 := by omega
    go_wp2
    go_roundg (11 - i)
    case measure => have := hh.out.2.2; omega
    case rel => exact ⟨i + 1, f2, by go_num, by omega, ⟨Qvb (by have := HY.out.2; omega) hh2.out.1, fun j => by have := hh2.out.2.1.1 j; omega, by omega⟩, hO, hM⟩
  obtain rfl : i = 12 := by omega
  have hP : tv f 0 60 = X * Y := by rw [hh.out.1, Nat.mod_eq_of_lt (by have := HX.out.2; omega)]
  have HC0 := Hd (CB.start hP fun j => by have := hh.out.2.1 j; omega)
  have HP50 := Hd (Qk2 HX.out.2 HY.out.2)
  have hy0 : ∃ y, (decide (n < 0) != decide (m < 0)) = y := ⟨_, rfl⟩
  obtain ⟨y, hy⟩ := hy0
  obtain ⟨r1, r2, r3, hmv⟩ := Qrw n s m t
  have HMV := Hd hmv
  have HDC := Hd (fun w' (hr : DRow w' g 0 60 (dg (X * Y))) => Qrx n s m t HS.out y hy X Y HX.out.1 HY.out.1 g w' hr)
  have HY2 := Hd hy
  have s1 := HS.out.1.1
  have s2 := HS.out.1.2.1
  have s3 := HS.out.2.1
  have s4 := HS.out.2.2.1
  clear hP hmv hy
  obtain ⟨wo, rfl⟩ : ∃ wo : World, wo = wr := ⟨_, rfl⟩
  go_wp2_with fail
  go_loopg [11] 59 (fun g3 v wr => ∃ (i : Nat) (f : Nat -> Nat), v = .int .i64 i /\ i <= 59 /\ Hid (CB f (X * Y) i /\ g3 = 59 - i) /\ DRow wr g 0 60 f /\ Mul3 w wr g gx gy X Y n s m t)
  case atStart => exact ⟨0, f, rfl, by omega, ⟨HC0.out, rfl⟩, hO, hM⟩
  case round =>
   clear hO hM HC0
   obtain ⟨j, f3, rfl, hj, hh3, hO, hM⟩ := hrel
   by_cases hlj : j < 59
   ·obtain ⟨c1, c2⟩ := hO.at0 (show j < 60 by omega)
    obtain ⟨c3, c4⟩ := hO.at0 (show j + 1 < 60 by omega)
    have j1 : (j : Int) < 59 := by omega
    have b1 : ((f3 j : Nat) : Int) <= 1080 := by have := hh3.out.1.2.2.1; omega
    have b2 : ((f3 (j + 1) : Nat) : Int) <= 972 := by have := hh3.out.1.2.2.2 (j + 1) (by omega); omega
    have NX := Hd (hh3.out.1.step hlj)
    obtain ⟨F, hF⟩ : ∃ F, F = f3 j := ⟨_, rfl⟩
    obtain ⟨G, hG⟩ : ∃ G, G = f3 (j + 1) := ⟨_, rfl⟩
    rw [← hF] at c1 b1 NX
    rw [← hG] at c3 b2 NX
    have HO := Hd hO
    have HM := Hd hM
    clear hF hG hO hM
    go_wp2
    go_region
    go_wp2
    go_roundg (gk - 1)
    case measure => have := hh3.out.2; omega
    case rel =>
     obtain ⟨q1, q2, q3⟩ := NE.out
     refine ⟨j + 1, _, by go_num, by omega, ⟨NX.out, by have := hh3.out.2; omega⟩, ?_, ((HM.out.set q1 q2 q3 _ _).set q1 q2 q3 _ _).drew⟩
     have e1 : (G : Int) + (F : Int) / 10 = ((G + F / 10 : Nat) : Int) := by omega
     have e2 : (F : Int) % 10 = ((F % 10 : Nat) : Int) := by omega
     rw [e1, e2]
     exact ((HO.out.put (j + 1) _ (by omega)).put j _ (by omega)).drew
   obtain rfl : j = 59 := by omega
   have hrow := hO.ext fun i hi => hh3.out.1.done HP50.out i hi
   obtain ⟨hA, hB, hR, -, -, hb⟩ := hM
   have hy := HY2.out
   clear hO
   have hy2 : (!(decide (n < 0) == decide (m < 0))) = y := hy
   clear hy
   go_wp2_with fail
   first | rw [hy2] | skip
   with_reducible refine (HDC.out _ hrow).mono ?_
   rintro e W5 ⟨rfl, hb1⟩
   rw [HMV.out]
   replace hR := hR.keep hb1
   replace hb := hb.trans hb1
   clear hb1 hrow hA hB hy2
   go_wp2_with fail
   refine pR (by simp [results, Tryz.results85, go_sem, hR]; try rfl) rfl ⟨by (rw [HMV.out]) <;> rfl, ?_⟩
   exact Bel.y
theorem Qry (n s m t : Int) (h : ¬ (SndD n s /\ SndD m t)) (w : World) : Calls Tryz.prog 85 #[decA n s, decA m t] w fun e w' => e = .returned (mulV n s m t) /\ Bel w w' := by
 have hv : Hid (mulV n s m t = errV 2) := iN h
 have hs := Qcy h
 have c1 := Hd fun w => Qai n s w
 have c2 := Hd fun w => Qai m t w
 clear h
 cases h1 : sndB n s with
 | false =>
  have h1 := Hd h1
  clear hs
  go_enter Tryz.func85, Tryz.ntmps85
  go_wp2_with fail
  refine Qac ((((Bel.refl w).alloc _).alloc _).alloc _) fun W hc hf hz hb => ?_
  have hA : Arr2 W w.heap.size n s := by simp [Arr2, hz, hc, hf, go_sem]
  have hR : Sl2 W (w.heap.size + 1 + 1) 0 0 := by simp [Sl2, Arr2, Fr2, hz, hc, hf, go_sem]
  clear hc hf hz
  go_wp2_with (go_at_call 39; refine (c1.out _).mono ?_; rintro e W1 ⟨rfl, hb1⟩; rw [h1.out]; replace hR := hR.keep hb1; replace hb := hb.trans hb1; clear hb1)
  refine pR (by simp [results, Tryz.results85, go_sem, hR]; try rfl) rfl ⟨by (rw [hv.out]) <;> rfl, ?_⟩
  exact Bel.y
 | true =>
  have h2 := Hd (show sndB m t = false by rw [h1] at hs; simpa using hs)
  have h1 := Hd h1
  clear hs
  go_enter Tryz.func85, Tryz.ntmps85
  go_wp2_with fail
  refine Qac ((((Bel.refl w).alloc _).alloc _).alloc _) fun W hc hf hz hb => ?_
  have hA : Arr2 W w.heap.size n s := by simp [Arr2, hz, hc, hf, go_sem]
  have hB : Arr2 W (w.heap.size + 1) m t := by simp [Arr2, hz, hc, hf, go_sem]
  have hR : Sl2 W (w.heap.size + 1 + 1) 0 0 := by simp [Sl2, Arr2, Fr2, hz, hc, hf, go_sem]
  clear hc hf hz
  go_wp2_with (first
   | (go_at_call 39; with_reducible refine (c1.out _).mono ?_; rintro e W1 ⟨rfl, hb1⟩; rw [h1.out]; replace hB := hB.keep hb1; replace hR := hR.keep hb1; replace hb := hb.trans hb1; clear hb1 hA)
   | (go_at_call 39; with_reducible refine (c2.out _).mono ?_; rintro e W2 ⟨rfl, hb1⟩; rw [h2.out]; replace hR := hR.keep hb1; replace hb := hb.trans hb1; clear hb1))
  refine pR (by simp [results, Tryz.results85, go_sem, hR]; try rfl) rfl ⟨by (rw [hv.out]) <;> rfl, ?_⟩
  exact Bel.y
theorem Qrz (n s m t : Int) (w : World) : Calls Tryz.prog 85 #[decA n s, decA m t] w fun e w' => e = .returned (mulV n s m t) /\ Bel w w' := by
 by_cases h : SndD n s /\ SndD m t
 ·exact Qpd n s m t h w
 exact Qry n s m t h w
theorem Qr0 (n s m t : Int) : ∃ a b e, divV n s m t = .tuple #[decA a b, .int .i64 e] := by
 unfold divV
 split
 ·split
  ·exact ⟨_, _, _, rfl⟩
  exact Qco _ _ _
 exact ⟨_, _, _, rfl⟩
theorem Qr1 (n s m t : Int) (h : SndD n s /\ SndD m t) (hm : m ≠ 0) (y : Bool) (hy : (decide (n < 0) != decide (m < 0)) = y) (X Y : Nat) (hX : X = n.natAbs) (hY : Y = m.natAbs) (g : Nat) (w : World) (hrow : DRow w g 0 60 (dg (sticky (X * 10 ^ 20) Y))) :
  Calls Tryz.prog 124 #[.slice (some ⟨g, 0, none⟩) 60 60, .int .i64 (20 + s - t), .bool y] w fun e w' => e = .returned (divV n s m t) /\ Bel w w' := by
 have hs := h.1.1
 have hs6 := h.1.2.1
 have ht := h.2.1
 have ht6 := h.2.2.1
 have hx : X <= 999999999999 := by have := h.1.2.2.1.1; have := h.1.2.2.1.2; omega
 have hb : sticky (X * 10 ^ 20) Y < 10 ^ 50 := Qpc (by omega)
 have hd := Qhg (sticky (X * 10 ^ 20) Y) (20 + s.toNat - t.toNat) y g hb (by omega) w hrow
 rw [show ((20 + s.toNat - t.toNat : Nat) : Int) = 20 + s - t by omega, Ql3 X Y s.toNat t.toNat (by omega) (by omega) (by omega), show min (20 + s.toNat - t.toNat) 6 = 6 by omega] at hd
 rw [show divV n s m t = _ from iP h, iN hm, hy, ← hX, ← hY, show (t + 6).toNat = t.toNat + 6 by omega]
 exact hd
theorem Qpe (n s m t : Int) (h : SndD n s /\ SndD m t) (hm0 : m ≠ 0) (w : World) : Calls Tryz.prog 86 #[decA n s, decA m t] w fun e w' => e = .returned (divV n s m t) /\ Bel w w' := by
 have c1 := Hd fun w => Qai n s w
 have c2 := Hd fun w => Qai m t w
 have h1 := Hd (Qbf h.1)
 have h2 := Hd (Qbf h.2)
 have hmk : ∀ w, (Instr.makeSlice 119 (.int .i64 60) (.int .i64 60)).run Tryz.prog w = .ok (.slice (some ⟨w.heap.size, 0, none⟩) 60 60) (w.alloc (.cells (madeCells #[.int .i64 0] 60) 3)) := Qck 60 (by omega)
 have HS := Hd h
 have hx : n.natAbs <= 999999999999 := by have := h.1.2.2.1.1; have := h.1.2.2.1.2; omega
 have hy : m.natAbs <= 999999999999 := by have := h.2.2.2.1.1; have := h.2.2.2.1.2; omega
 have sz1 := Hd fun w => Qc2 n h.1.2.2.1 w
 have sz2 := Hd fun w => Qc2 m h.2.2.2.1 w
 have ypos : 1 <= m.natAbs := by omega
 obtain ⟨X, hX⟩ : ∃ X, X = n.natAbs := ⟨_, rfl⟩
 obtain ⟨Y, hY⟩ : ∃ Y, Y = m.natAbs := ⟨_, rfl⟩
 rw [← hX] at hx sz1
 rw [← hY] at hy sz2 ypos
 have HX := Hd (And.intro hX hx)
 have HY := Hd (And.intro hY (And.intro hy ypos))
 have dX := Hd fun w => Qcl X hx w
 have e1 : (m == 0) = false := by simpa using hm0
 have HM0 := Hd hm0
 obtain ⟨N, hN⟩ : ∃ N, N = X * 10 ^ 20 := ⟨_, rfl⟩
 have HN := Hd hN
 have hN32 := Hd (show N < 10 ^ 32 by omega)
 have hmk' := Hd hmk
 clear h hx hy hX hY ypos hN hmk
 go_enter Tryz.func86, Tryz.ntmps86
 go_wp2_with fail
 refine Qac ((((Bel.refl w).alloc _).alloc _).alloc _) fun W hc hf hz hb => ?_
 have hA : Arr2 W w.heap.size n s := by simp [Arr2, hz, hc, hf, go_sem]
 have hB : Arr2 W (w.heap.size + 1) m t := by simp [Arr2, hz, hc, hf, go_sem]
 have hR : Sl2 W (w.heap.size + 1 + 1) 0 0 := by simp [Sl2, Arr2, Fr2, hz, hc, hf, go_sem]
 clear hc hf hz
 go_upto_region 7 with (first
  | (go_at_call 39; with_reducible refine (c1.out _).mono ?_; rintro e W1 ⟨rfl, hb1⟩; rw [h1.out]; replace hA := hA.keep hb1; replace hB := hB.keep hb1; replace hR := hR.keep hb1; replace hb := hb.trans hb1; clear hb1)
  | (go_at_call 39; with_reducible refine (c2.out _).mono ?_; rintro e W2 ⟨rfl, hb1⟩; rw [h2.out]; replace hA := hA.keep hb1; replace hB := hB.keep hb1; replace hR := hR.keep hb1; replace hb := hb.trans hb1; clear hb1)
  | (go_at_call 128; with_reducible refine (sz1.out _).mono ?_; rintro e V1 ⟨rfl, rfl⟩)
  | (go_at_call 128; with_reducible refine (sz2.out _).mono ?_; rintro e V4 ⟨rfl, rfl⟩)
  | (go_at_call 127; with_reducible refine (dX.out _).mono ?_; rintro e V2 ⟨rfl, hDx, hb1⟩; replace hA := hA.keep hb1; replace hB := hB.keep hb1; replace hR := hR.keep hb1; replace hb := hb.trans hb1; clear hb1))
 have n1 := hR.1.1
 have n2 := hDx.1
 have hM : Mul3 w V4 V4.heap.size V1.heap.size V1.heap.size X X n s m t := ⟨hA, hB, hR, hDx, hDx, hb⟩
 have hmk := hmk'.out
 have hMD := Qcj V4 60 3
 have HMD := Hd hMD
 have HM := Hd (hM.keep ((Bel.refl V4).alloc (.cells (madeCells #[.int .i64 0] 60) 3)))
 clear hDx hA hB hR hM hmk' hMD e1
 go_upto_region 8 with (fail)
 refine uN (hb.alloc _) fun W4 hc hf hz hb4 => ?_
 have hO := HMD.out.same hc hf hz
 have hM := HM.out.same hc hf hz hb4
 have NE := Hd (And.intro n1 (show V1.heap.size ≠ V4.heap.size by omega))
 generalize V4.heap.size = g at *
 generalize V1.heap.size = gx at *
 clear hc hf hz hb4 hb HM HMD hmk n1 n2
 have y1 : (1 : Int) <= Y := by have := HY.out.2.2; omega
 have y2 : ¬ (Y : Int) = 0 := by omega
 have y3 : (Y : Int) <= 999999999999 := by have := HY.out.2.1; omega
 have hy0 : ∃ y, (decide (n < 0) != decide (m < 0)) = y := ⟨_, rfl⟩
 obtain ⟨y, hy⟩ := hy0
 obtain ⟨r1, r2, r3, hmv⟩ := Qr0 n s m t
 have HDV := Hd hmv
 have HDC := Hd (fun w' (hr : DRow w' g 0 60 (dg (sticky (X * 10 ^ 20) Y))) => Qr1 n s m t HS.out HM0.out y hy X Y HX.out.1 HY.out.1 g w' hr)
 have HY2 := Hd hy
 have s1 := HS.out.1.1
 have s2 := HS.out.1.2.1
 have s3 := HS.out.2.1
 have s4 := HS.out.2.2.1
 clear hmv hy hm0
 go_wp2_with fail
 go_loopg [9, 10] 32 (fun gk v9 v10 wr => ∃ (k : Nat) (z : Int), v9 = .int .i64 ((N / 10 ^ k % Y : Nat) : Int) /\ v10 = .int .i64 z /\ Hid (z = (k : Int) - 1 /\ k <= 32 /\ gk = k) /\ DRow wr g 0 60 (above (dg (N / Y)) k) /\ Mul3 w wr g gx gx X X n s m t)
 case atStart =>
  refine ⟨32, 31, by rw [Nat.div_eq_of_lt hN32.out, Nat.zero_mod]; rfl, rfl, ⟨rfl, by omega, rfl⟩, hO.ext fun i _ => ?_, hM⟩
  unfold above
  by_cases h : 32 <= i
  ·rw [iP h, Qs2]
   have h3 : 10 ^ 32 <= 10 ^ i := Nat.pow_le_pow_right (by omega) h
   have := Nat.div_le_self N Y
   have := hN32.out
   omega
  rw [iN h]
 case round =>
  clear hO hM
  obtain ⟨k, z, rfl, rfl, hh, hO, hM⟩ := hrel
  obtain ⟨hz, hk, -⟩ := hh.out
  by_cases h0 : k = 0
  ·subst h0
   obtain rfl : z = -1 := by omega
   have hO0 := hO.ext (g := dg (N / Y)) fun i _ => by unfold above; rw [iP (Nat.zero_le _)]
   rw [Nat.pow_zero, Nat.div_one]
   have hST := Hd (show sticky N Y = if 0 < N % Y /\ N / Y % 10 = 0 then N / Y + 1 else N / Y from rfl)
   have HN' := HN.out
   obtain ⟨c1, c2⟩ := hO0.at0 (show 0 < 60 by omega)
   rw [Qfa] at c1
   have HO := Hd hO0
   have rb : ((N % Y : Nat) : Int) <= 999999999999 := by have := Nat.mod_lt N (show 0 < Y by omega); omega
   obtain ⟨q1, q2⟩ := NE.out
   clear hz hk hO hO0
   by_cases hr : 0 < N % Y
   ·have r0 : (0 : Int) < ((N % Y : Nat) : Int) := by omega
    by_cases hq : N / Y % 10 = 0
    ·have hst := Hd (hST.out.trans (iP ⟨hr, hq⟩))
     have hrow1 : ∀ wx, DRow wx g 0 60 (dg (N / Y)) -> DRow (wx.setCell ⟨g, 0, none⟩ (.int .i64 1)) g 0 60 (dg (sticky (X * 10 ^ 20) Y)) := fun wx h => by
      rw [← HN', hst.out]
      exact (h.put 0 1 (by omega)).ext fun i _ => Qwt _ _ hq
     have HR1 := Hd hrow1
     rw [hq] at c1
     have hM' := hM.set q1 q2 q2 0 (.int .i64 1)
     have hrow := HR1.out _ HO.out
     have HMM := Hd hM'
     have HROW := Hd hrow
     generalize N % Y = R at *
     clear hq hrow1 hr hM' hrow hM HN'
     go_upto_region 20 with (fail)
     refine uN HMM.out.2.2.2.2.2 fun W9 hc hf hz hb9 => ?_
     have hrow := HROW.out.same hc hf hz
     obtain ⟨hA, hB, hR, -, -, hb⟩ := HMM.out.same hc hf hz hb9
     clear hc hf hz hb9 c1 c2
     have hy2 : (!(decide (n < 0) == decide (m < 0))) = y := HY2.out
     go_wp2_with fail
     first | rw [hy2] | skip
     with_reducible refine (HDC.out _ hrow).mono ?_
     rintro e W5 ⟨rfl, hb1⟩
     rw [HDV.out]
     replace hR := hR.keep hb1
     replace hb := hb.trans hb1
     clear hb1 hrow hA hB hy2
     go_wp2_with fail
     refine pR (by simp [results, Tryz.results86, go_sem, hR]; try rfl) rfl ⟨by (rw [HDV.out]) <;> rfl, ?_⟩
     exact Bel.y
    have hst := Hd (hST.out.trans (iN (fun h => hq h.2)))
    have hrow : DRow wr g 0 60 (dg (sticky (X * 10 ^ 20) Y)) := by rw [← HN', hst.out]; exact HO.out
    have e1 : (((N / Y % 10 : Nat) : Int) == 0) = false := by rw [bN]; omega
    have e2 : ¬ ((N / Y % 10 : Nat) : Int) = 0 := by omega
    obtain ⟨hA, hB, hR, -, -, hb⟩ := hM
    generalize N % Y = R at *
    generalize N / Y % 10 = Q at *
    clear hq hr HN'
    have hy2 : (!(decide (n < 0) == decide (m < 0))) = y := HY2.out
    go_wp2_with fail
    first | rw [hy2] | skip
    with_reducible refine (HDC.out _ hrow).mono ?_
    rintro e W5 ⟨rfl, hb1⟩
    rw [HDV.out]
    replace hR := hR.keep hb1
    replace hb := hb.trans hb1
    clear hb1 hrow hA hB hy2
    go_wp2_with fail
    refine pR (by simp [results, Tryz.results86, go_sem, hR]; try rfl) rfl ⟨by (rw [HDV.out]) <;> rfl, ?_⟩
    exact Bel.y
   have hst := Hd (hST.out.trans (iN (fun h => hr h.1)))
   have hrow : DRow wr g 0 60 (dg (sticky (X * 10 ^ 20) Y)) := by rw [← HN', hst.out]; exact HO.out
   have r0 : ¬ (0 : Int) < ((N % Y : Nat) : Int) := by omega
   obtain ⟨hA, hB, hR, -, -, hb⟩ := hM
   generalize N % Y = R at *
   clear hr HN'
   have hy2 : (!(decide (n < 0) == decide (m < 0))) = y := HY2.out
   go_wp2_with fail
   first | rw [hy2] | skip
   with_reducible refine (HDC.out _ hrow).mono ?_
   rintro e W5 ⟨rfl, hb1⟩
   rw [HDV.out]
   replace hR := hR.keep hb1
   replace hb := hb.trans hb1
   clear hb1 hrow hA hB hy2
   go_wp2_with fail
   refine pR (by simp [results, Tryz.results86, go_sem, hR]; try rfl) rfl ⟨by (rw [HDV.out]) <;> rfl, ?_⟩
   exact Bel.y
  obtain ⟨j, rfl⟩ : ∃ j, k = j + 1 := ⟨k - 1, by omega⟩
  obtain rfl : z = (j : Int) := by omega
  obtain ⟨c1, c2⟩ := hO.at0 (show j < 60 by omega)
  have hL := Qo9 N Y j (by omega)
  obtain ⟨l1, l2, l3⟩ := hL
  have hrY := Nat.mod_lt (N / 10 ^ (j + 1)) (show 0 < Y by omega)
  have hdl := Qer N j
  have b1 : ((N / 10 ^ (j + 1) % Y : Nat) : Int) <= 999999999999 := by omega
  have E := Hd (And.intro l2 l3)
  have HDG := Hd (show dg N j = if 20 <= j then dg X (j - 20) else 0 by rw [HN.out]; exact Qva X j)
  obtain ⟨R, hR0⟩ : ∃ R, R = N / 10 ^ (j + 1) % Y := ⟨_, rfl⟩
  rw [← hR0] at b1 E ⊢
  clear l1 l2 l3 hrY hR0 hz h0
  by_cases h20 : (20 : Int) <= j
  ·obtain ⟨c3, -⟩ := hM.2.2.2.1.at0 (show j - 20 < 12 by omega)
   have j1 : (j : Int) < 32 := by omega
   have ed : dg N j = dg X (j - 20) := by rw [HDG.out, iP (by omega)]
   rw [← ed] at c3
   have b2 : ((dg N j : Nat) : Int) <= 9 := by omega
   generalize hd : dg N j = d at *
   have E1 := Hd (show ((R : Int) * 10 + (d : Int)) / (Y : Int) = ((dg (N / Y) j : Nat) : Int) by rw [← E.out.1]; simp)
   have E2 := Hd (show ((R : Int) * 10 + (d : Int)) % (Y : Int) = ((N / 10 ^ j % Y : Nat) : Int) by rw [← E.out.2]; simp)
   have HO := Hd hO
   have HM := Hd hM
   clear hd hdl ed hO hM
   go_wp2
   go_roundg (gk - 1)
   case measure => have := hh.out.2.2; omega
   case rel =>
    obtain ⟨q1, q2⟩ := NE.out
    refine ⟨j, (j : Int) - 1, by rw [E2.out], rfl, ⟨rfl, by omega, by have := hh.out.2.2; omega⟩, ?_, HM.out.set q1 q2 q2 _ _⟩
    rw [E1.out]
    exact (HO.out.put j _ (by omega)).ext fun i _ => Qif _ _ _
  have j1 : (j : Int) < 20 := by omega
  have ed : dg N j = 0 := by rw [HDG.out, iN (by omega)]
  rw [ed, Nat.add_zero] at E
  have E1 := Hd (show ((R : Int) * 10) / (Y : Int) = ((dg (N / Y) j : Nat) : Int) by rw [← E.out.1]; simp)
  have E2 := Hd (show ((R : Int) * 10) % (Y : Int) = ((N / 10 ^ j % Y : Nat) : Int) by rw [← E.out.2]; simp)
  have HO := Hd hO
  have HM := Hd hM
  clear hdl ed hO hM
  go_wp2
  go_roundg (gk - 1)
  case measure => have := hh.out.2.2; omega
  case rel =>
   obtain ⟨q1, q2⟩ := NE.out
   refine ⟨j, (j : Int) - 1, by rw [E2.out], rfl, ⟨rfl, by omega, by have := hh.out.2.2; omega⟩, ?_, HM.out.set q1 q2 q2 _ _⟩
   rw [E1.out]
   exact (HO.out.put j _ (by omega)).ext fun i _ => Qif _ _ _
theorem Qr2 (n s m t : Int) (h : ¬ (SndD n s /\ SndD m t)) (w : World) : Calls Tryz.prog 86 #[decA n s, decA m t] w fun e w' => e = .returned (divV n s m t) /\ Bel w w' := by
 have hv : Hid (divV n s m t = errV 2) := iN h
 have hs := Qcy h
 have c1 := Hd fun w => Qai n s w
 have c2 := Hd fun w => Qai m t w
 clear h
 cases h1 : sndB n s with
 | false =>
  have h1 := Hd h1
  clear hs
  go_enter Tryz.func86, Tryz.ntmps86
  go_wp2_with fail
  refine Qac ((((Bel.refl w).alloc _).alloc _).alloc _) fun W hc hf hz hb => ?_
  have hA : Arr2 W w.heap.size n s := by simp [Arr2, hz, hc, hf, go_sem]
  have hR : Sl2 W (w.heap.size + 1 + 1) 0 0 := by simp [Sl2, Arr2, Fr2, hz, hc, hf, go_sem]
  clear hc hf hz
  go_wp2_with (go_at_call 39; refine (c1.out _).mono ?_; rintro e W1 ⟨rfl, hb1⟩; rw [h1.out]; replace hR := hR.keep hb1; replace hb := hb.trans hb1; clear hb1)
  refine pR (by simp [results, Tryz.results86, go_sem, hR]; try rfl) rfl ⟨by (rw [hv.out]) <;> rfl, ?_⟩
  exact Bel.y
 | true =>
  have h2 := Hd (show sndB m t = false by rw [h1] at hs; simpa using hs)
  have h1 := Hd h1
  clear hs
  go_enter Tryz.func86, Tryz.ntmps86
  go_wp2_with fail
  refine Qac ((((Bel.refl w).alloc _).alloc _).alloc _) fun W hc hf hz hb => ?_
  have hA : Arr2 W w.heap.size n s := by simp [Arr2, hz, hc, hf, go_sem]
  have hB : Arr2 W (w.heap.size + 1) m t := by simp [Arr2, hz, hc, hf, go_sem]
  have hR : Sl2 W (w.heap.size + 1 + 1) 0 0 := by simp [Sl2, Arr2, Fr2, hz, hc, hf, go_sem]
  clear hc hf hz
  go_wp2_with (first
   | (go_at_call 39; with_reducible refine (c1.out _).mono ?_; rintro e W1 ⟨rfl, hb1⟩; rw [h1.out]; replace hB := hB.keep hb1; replace hR := hR.keep hb1; replace hb := hb.trans hb1; clear hb1 hA)
   | (go_at_call 39; with_reducible refine (c2.out _).mono ?_; rintro e W2 ⟨rfl, hb1⟩; rw [h2.out]; replace hR := hR.keep hb1; replace hb := hb.trans hb1; clear hb1))
  refine pR (by simp [results, Tryz.results86, go_sem, hR]; try rfl) rfl ⟨by (rw [hv.out]) <;> rfl, ?_⟩
  exact Bel.y
theorem Qpf (n s t : Int) (h : SndD n s /\ SndD 0 t) (w : World) : Calls Tryz.prog 86 #[decA n s, decA 0 t] w fun e w' => e = .returned (divV n s 0 t) /\ Bel w w' := by
 have hv : Hid (divV n s 0 t = errV 4) := by rw [Hid, show divV n s 0 t = _ from iP h, iP rfl]
 have c1 := Hd fun w => Qai n s w
 have c2 := Hd fun w => Qai 0 t w
 have h1 := Hd (Qbf h.1)
 have h2 := Hd (Qbf h.2)
 clear h
 go_enter Tryz.func86, Tryz.ntmps86
 go_wp2_with fail
 refine Qac ((((Bel.refl w).alloc _).alloc _).alloc _) fun W hc hf hz hb => ?_
 have hA : Arr2 W w.heap.size n s := by simp [Arr2, hz, hc, hf, go_sem]
 have hB : Arr2 W (w.heap.size + 1) 0 t := by simp [Arr2, hz, hc, hf, go_sem]
 have hR : Sl2 W (w.heap.size + 1 + 1) 0 0 := by simp [Sl2, Arr2, Fr2, hz, hc, hf, go_sem]
 clear hc hf hz
 go_wp2_with (first
  | (go_at_call 39; with_reducible refine (c1.out _).mono ?_; rintro e W1 ⟨rfl, hb1⟩; rw [h1.out]; replace hB := hB.keep hb1; replace hR := hR.keep hb1; replace hb := hb.trans hb1; clear hb1 hA)
  | (go_at_call 39; with_reducible refine (c2.out _).mono ?_; rintro e W2 ⟨rfl, hb1⟩; rw [h2.out]; replace hB := hB.keep hb1; replace hR := hR.keep hb1; replace hb := hb.trans hb1; clear hb1))
 refine pR (by simp [results, Tryz.results86, go_sem, hR]; try rfl) rfl ⟨by (rw [hv.out]) <;> rfl, ?_⟩
 exact Bel.y
theorem Qr3 (n s m t : Int) (w : World) : Calls Tryz.prog 86 #[decA n s, decA m t] w fun e w' => e = .returned (divV n s m t) /\ Bel w w' := by
 by_cases h : SndD n s /\ SndD m t
 ·by_cases hm : m = 0
  ·subst hm; exact Qpf n s t h w
  exact Qpe n s m t h hm w
 exact Qr2 n s m t h w
theorem Qwu (s : Nat) : trim 0 s = (0, 0) := by
 induction s with
 | zero => rfl
 | succ k ih => rw [Qcn _ _ rfl]; exact ih
theorem Qpg (x y : Bool) (s : Nat) : decV x 0 s = decV y 0 s := by
 unfold decV
 rw [Qwu]
 cases x <;> cases y <;> rfl
theorem Qxh {n : Int} {s : Nat} (hs : s <= 12) (k : Nat) : dg (lv n s) (k + (12 - s)) = dg n.natAbs k := Qwp _ _ _
theorem Qwv {n : Int} {s : Nat} (i : Nat) (h : i < 12 - s) : dg (lv n s) i = 0 := Qs1 _ _ _ h
theorem Qvd {n : Int} {s : Nat} (h : small n) (i : Nat) (hi : 12 + (12 - s) <= i) : dg (lv n s) i = 0 := by
 refine Qs2 _ _ ?_
 have h1 := h.1
 have h2 := h.2
 unfold lv
 have e : 10 ^ (12 + (12 - s)) = 10 ^ 12 * 10 ^ (12 - s) := Nat.pow_add ..
 have h3 : 10 ^ (12 + (12 - s)) <= 10 ^ i := Nat.pow_le_pow_right (by omega) hi
 have h4 : n.natAbs * 10 ^ (12 - s) < 10 ^ 12 * 10 ^ (12 - s) := Nat.mul_lt_mul_of_pos_right (by omega) (p10 _)
 omega
def LongOut (V : Nat) (w : World) (e : Ending) (w' : World) : Prop := ∃ g, e = .returned (.slice (some ⟨g, 0, none⟩) 60 60) /\ w.heap.size <= g /\ DRow w' g 0 60 (dg V) /\ Bel w w'
theorem Qph (n : Int) (s : Nat) (hn : small n) (hs : s <= 6) (w : World) : Calls Tryz.prog 94 #[.agg #[.int .i64 n, .int .i64 s]] w (LongOut (lv n s) w) := by
 have hmk : ∀ w, (Instr.makeSlice 119 (.int .i64 60) (.int .i64 60)).run Tryz.prog w = .ok (.slice (some ⟨w.heap.size, 0, none⟩) 60 60) (w.alloc (.cells (madeCells #[.int .i64 0] 60) 3)) := Qck 60 (by omega)
 have HS := Hd fun w => Qc2 n hn w
 have hx : n.natAbs <= 999999999999 := by have := hn.1; have := hn.2; omega
 have HD := Hd fun w => Qcl n.natAbs hx w
 have HN := Hd hn
 have i1 : (s : Int) <= 6 := by omega
 clear hx hn
 go_enter Tryz.func94, Tryz.ntmps94
 go_upto_region 2 with (fail)
 refine uN (((Bel.refl w).alloc _).alloc _) fun W hc hf hz hb => ?_
 have hA : Arr2 W w.heap.size n s := by simp [Arr2, hz, hc, hf, go_sem]
 have hO : DRow W (w.heap.size + 1) 0 60 (fun _ => 0) := by
  have h := (Qcj (w.alloc (.cells #[.int .i64 n, .int .i64 s] 23)) 60 3).same hc hf hz
  simpa using h
 have hzz : W.heap.size = w.heap.size + 1 + 1 := by rw [hz]; simp
 have HZZ := Hd hzz
 clear hc hf hz hmk hzz
 go_wp2_with (first
  | (go_at_call 128; refine (HS.out _).mono ?_; rintro e W1 ⟨rfl, rfl⟩)
  | (go_at_call 127; refine (HD.out _).mono ?_; rintro e W2 ⟨rfl, hX, hb1⟩; replace hA := hA.keep hb1; replace hO := hO.keep hb1; replace hb := hb.trans hb1; clear hb1))
 have hne1 : ¬ W1.heap.size = w.heap.size + 1 := by have := HZZ.out; omega
 have hne2 : ¬ w.heap.size + 1 = W1.heap.size := by have := HZZ.out; omega
 have HNE := Hd (And.intro hne1 hne2)
 go_loopg [5] 12 (fun g i wr => ∃ k : Nat, k <= 12 /\ i = .int .i64 k /\ Hid (g = 12 - k) /\ Arr2 wr w.heap.size n s /\ DRow wr (w.heap.size + 1) 0 60 (below (dg (lv n s)) (k + (12 - s))) /\ DRow wr W1.heap.size 0 12 (dg n.natAbs) /\ Bel w wr)
 case atStart => exact ⟨0, by omega, rfl, rfl, hA, hO.ext fun i _ => by
  unfold below
  by_cases h : i < 0 + (12 - s)
  ·rw [iP h, Qwv i (by omega)]
  rw [iN h], hX, hb⟩
 case round =>
  clear hA hO hX hb
  obtain ⟨k, hk, rfl, hh, hA, hO, hX, hb⟩ := hrel
  by_cases hlt : k < 12
  ·obtain ⟨c1, -⟩ := hX.at0 hlt
   obtain ⟨c2, c3⟩ := hO.at0 (show k + 12 - s < 60 by omega)
   have j1 : (k : Int) < 12 := by omega
   have E := Hd (Qxh (n := n) (show s <= 12 by omega) k)
   have E2 := Hd (show k + 12 - s = k + (12 - s) by omega)
   generalize hd : dg n.natAbs k = d at *
   clear hd
   go_wp2
   go_region
   go_wp2
   go_roundg (gk - 1)
   case measure => have := hh.out; omega
   case rel => exact ⟨k + 1, by omega, by go_num, (show _ = _ by have := hh.out; omega), (hA.other (by simp) _).keep (Bel.refl _).drew, by
     rw [E2.out, ← E.out]
     exact ((hO.put (k + (12 - s)) _ (by omega)).ext fun i _ => by rw [Qc3, show k + (12 - s) + 1 = k + 1 + (12 - s) by omega]).drew,
    (hX.other hne1 _).drew, (hb.setCell (Nat.le_succ _) _).drew⟩
  obtain rfl : k = 12 := by omega
  go_wp2
  go_ret
  exact ⟨_, rfl, Nat.le_succ _, hO.ext fun i _ => by
   unfold below
   by_cases h : i < 12 + (12 - s)
   ·rw [iP h]
   rw [iN h, Qvd HN.out i (by omega)], hb⟩
theorem Qpi (n s : Int) (h : SndD n s) (w : World) : Calls Tryz.prog 94 #[.agg #[.int .i64 n, .int .i64 s]] w (LongOut (lv n s.toNat) w) := by
 have := Qph n s.toNat h.2.2.1 (by have := h.2.1; omega) w
 rwa [show ((s.toNat : Nat) : Int) = s by have := h.1; omega] at this
theorem Qk3 {a b : Bool} (h : a = b) : Ending.returned (.bool a) = .returned (.bool b) := by rw [h]
theorem Qa2 (b1 b2 x y : Nat) (hx0 : x < 10 ^ 60) (hy0 : y < 10 ^ 60) (w : World) (hx : DRow w b1 0 60 (dg x)) (hy : DRow w b2 0 60 (dg y)) :
  Calls Tryz.prog 93 #[.slice (some ⟨b1, 0, none⟩) 60 60, .slice (some ⟨b2, 0, none⟩) 60 60] w fun e w' => e = .returned (.bool (decide (x < y))) /\ Bel w w' := by
 have H0 := Hd (show x / 10 ^ 60 = y / 10 ^ 60 by rw [Nat.div_eq_of_lt hx0, Nat.div_eq_of_lt hy0])
 clear hx0 hy0
 go_enter Tryz.func93, Tryz.ntmps93
 go_wp2_with fail
 go_loopg [5] 60 (fun g i wr => ∃ (k : Nat) (z : Int), i = .int .i64 z /\ Hid (z = (k : Int) - 1 /\ k <= 60 /\ g = k /\ x / 10 ^ k = y / 10 ^ k) /\ Bel w wr)
 case atStart => exact ⟨60, 59, rfl, ⟨rfl, Nat.le_refl _, rfl, H0.out⟩, Bel.refl w⟩
 case round =>
  obtain ⟨k, z, rfl, hh, hb⟩ := hrel
  obtain ⟨hz, hk, -, he⟩ := hh.out
  by_cases h0 : k = 0
  ·subst h0
   obtain rfl : z = -1 := by omega
   have L := Hd (show decide (x < y) = false by rw [decide_eq_false_iff_not]; simp at he; omega)
   clear hz hk he
   go_wp2
   go_ret
   exact ⟨Qk3 L.out.symm, hb⟩
  obtain ⟨j, rfl⟩ : ∃ j, k = j + 1 := ⟨k - 1, by omega⟩
  obtain rfl : z = (j : Int) := by omega
  obtain ⟨c1, -⟩ := (hx.keep hb).at0 (show j < 60 by omega)
  obtain ⟨c2, -⟩ := (hy.keep hb).at0 (show j < 60 by omega)
  have j1 : (j : Int) < 60 := by omega
  have LD := Hd (Ql2 x y j he)
  have LS := Hd (Qo8 x y j he)
  generalize dg x j = p at *
  generalize dg y j = q at *
  clear hz hk he h0
  by_cases hpq : p = q
  ·subst hpq
   have L2 := Hd (LS.out rfl)
   go_wp2
   go_quiet (fail)
   go_wp2
   go_roundg (gk - 1)
   case measure => have := hh.out.2.2.1; omega
   case rel => exact ⟨j, (j : Int) - 1, rfl, ⟨rfl, by omega, by have := hh.out.2.2.1; omega, L2.out⟩, hb.drewN _⟩
  have L := Hd (LD.out hpq)
  have e1 : ¬ (p : Int) = q := by omega
  have e2 : ((p : Int) != q) = true := by rw [bne_iff_ne]; exact e1
  clear hpq
  go_wp2
  go_quiet (fail)
  go_wp2
  go_quiet (fail)
  go_wp2
  go_ret
  exact ⟨Qk3 (by rw [decide_eq_decide, L.out] <;> omega), (hb.drewN _).drewN _⟩
theorem Ql4 (b1 b2 x y : Nat) (hle : y <= x) (w : World) (hx : DRow w b1 0 60 (dg x)) (hy : DRow w b2 0 60 (dg y)) :
  Calls Tryz.prog 126 #[.slice (some ⟨b1, 0, none⟩) 60 60, .slice (some ⟨b2, 0, none⟩) 60 60] w (LongOut (x - y) w) := by
 have hmk : ∀ w, (Instr.makeSlice 119 (.int .i64 60) (.int .i64 60)).run Tryz.prog w = .ok (.slice (some ⟨w.heap.size, 0, none⟩) 60 60) (w.alloc (.cells (madeCells #[.int .i64 0] 60) 3)) := Qck 60 (by omega)
 have HL := Hd hle
 clear hle
 go_enter Tryz.func126, Tryz.ntmps126
 go_wp2
 have hD := Qcj w 60 3
 have hb := (Bel.refl w).alloc (.cells (madeCells #[.int .i64 0] 60) 3)
 go_loopg [6, 7] 60 (fun g c i wr => ∃ k : Nat, k <= 60 /\ c = .int .i64 ((bor x y k : Nat) : Int) /\ i = .int .i64 k /\ Hid (g = 60 - k) /\ DRow wr w.heap.size 0 60 (below (dg (x - y)) k) /\ Bel w wr)
 case atStart => exact ⟨0, by omega, by rw [Qxg]; rfl, rfl, rfl, hD.ext fun i hi => by simp [below], hb⟩
 case round =>
  clear hD hb hmk
  obtain ⟨k, hk, rfl, rfl, hh, hD, hb⟩ := hrel
  by_cases hlt : k < 60
  ·obtain ⟨c1, c2⟩ := hD.at0 hlt
   obtain ⟨c3, -⟩ := (hx.keep hb).at0 hlt
   obtain ⟨c5, -⟩ := (hy.keep hb).at0 hlt
   have d1 : ((dg x k : Nat) : Int) <= 9 := by have := Qer x k; omega
   have d2 : ((dg y k : Nat) : Int) <= 9 := by have := Qer y k; omega
   have d3 : ((bor x y k : Nat) : Int) <= 1 := by have := Qk0 x y k; omega
   have hd := Qjo x y k HL.out
   have hbo := Qic x y k HL.out
   generalize dg x k = p at *
   generalize dg y k = q at *
   generalize bor x y k = r at *
   have i1 : (0 : Int) <= k := by omega
   have i2 : (k : Int) < 60 := by omega
   by_cases hneg : p < q + r
   ·rw [iP hneg] at hd hbo
    have E := Hd (show (p : Int) - q - r + 10 = ((dg (x - y) k : Nat) : Int) by omega)
    have F := Hd hbo
    have t1 : (p : Int) - q - r < 0 := by omega
    clear hd hbo hneg
    go_wp2
    go_quiet (fail)
    go_wp2
    go_roundg (gk - 1)
    case measure => have := hh.out; omega
    case rel => exact ⟨k + 1, by omega, by rw [← F.out]; rfl, by go_num, (show _ = _ by have := hh.out; omega), by rw [E.out]; exact ((hD.drewN _).put k (dg (x - y) k) hlt).ext fun i _ => Qc3 _ _ _, (hb.drewN _).setCell (Nat.le_refl _) _⟩
   rw [iN hneg] at hd hbo
   have E := Hd (show (p : Int) - q - r = ((dg (x - y) k : Nat) : Int) by omega)
   have F := Hd hbo
   have t1 : ¬ (p : Int) - q - r < 0 := by omega
   clear hd hbo hneg
   go_wp2
   go_quiet (fail)
   go_wp2
   go_roundg (gk - 1)
   case measure => have := hh.out; omega
   case rel => exact ⟨k + 1, by omega, by rw [← F.out]; rfl, by go_num, (show _ = _ by have := hh.out; omega), by rw [E.out]; exact ((hD.drewN _).put k (dg (x - y) k) hlt).ext fun i _ => Qc3 _ _ _, (hb.drewN _).setCell (Nat.le_refl _) _⟩
  obtain rfl : k = 60 := by omega
  go_wp2
  go_ret
  exact ⟨_, rfl, Nat.le_refl _, hD.ext fun i hi => by simp [below, hi], hb⟩
theorem Qww {n s : Int} (h : SndD n s) : lv n s.toNat = (unt n s).natAbs * 10 ^ 6 := by
 obtain ⟨h1, h2, -, -⟩ := h
 rw [Qu9, lv, show 12 - s.toNat = (6 - s).toNat + 6 by omega, Nat.pow_add, ← Nat.mul_assoc]
 rfl
theorem Qk4 {n s : Int} (h : SndD n s) : (unt n s).natAbs <= 1000000000000000000 := by
 have := Qkt n s h; omega
theorem Qaf (n s : Int) (h : SndD n s) (w : World) : Calls Tryz.prog 94 #[.agg #[.int .i64 n, .int .i64 s]] w (LongOut ((unt n s).natAbs * 10 ^ 6) w) := by
 rw [← Qww h]; exact Qpi n s h w
theorem Qve {u v : Int} : (u < 0 -> 0 <= v -> sgn u v = -1) /\ (0 <= u -> v < 0 -> sgn u v = 1) /\ (0 <= u -> 0 <= v -> u.natAbs < v.natAbs -> sgn u v = -1) /\ (0 <= u -> 0 <= v -> v.natAbs < u.natAbs -> sgn u v = 1) /\
  (u < 0 -> v < 0 -> u.natAbs < v.natAbs -> sgn u v = 1) /\ (u < 0 -> v < 0 -> v.natAbs < u.natAbs -> sgn u v = -1) /\ ((u < 0 ↔ v < 0) -> u.natAbs = v.natAbs -> sgn u v = 0) := by
 unfold sgn
 refine ⟨fun _ _ => ?_, fun _ _ => ?_, fun _ _ _ => ?_, fun _ _ _ => ?_, fun _ _ _ => ?_, fun _ _ _ => ?_, fun _ _ => ?_⟩
 ·rw [iP (by omega)]
 ·rw [iN (by omega), iP (by omega)]
 ·rw [iP (by omega)]
 ·rw [iN (by omega), iP (by omega)]
 ·rw [iN (by omega), iP (by omega)]
 ·rw [iP (by omega)]
 rw [iN (by omega), iN (by omega)]
theorem Qr4 (n s m t : Int) (h : ¬ (SndD n s /\ SndD m t)) (w : World) : Calls Tryz.prog 67 #[decA n s, decA m t] w fun e w' => e = .returned (cmpV n s m t) /\ Bel w w' := by
 have hv : Hid (cmpV n s m t = .tuple #[.int .i64 0, .int .i64 2]) := iN h
 have hs := Qcy h
 have c1 := Hd fun w => Qai n s w
 have c2 := Hd fun w => Qai m t w
 clear h
 cases h1 : sndB n s with
 | false =>
  have h1 := Hd h1
  clear hs
  go_enter Tryz.func67, Tryz.ntmps67
  go_wp2_with fail
  refine Qac (((Bel.refl w).alloc _).alloc _) fun W hc hf hz hb => ?_
  have hA : Arr2 W w.heap.size n s := by simp [Arr2, hz, hc, hf, go_sem]
  clear hc hf hz
  go_wp2_with (go_at_call 39; refine (c1.out _).mono ?_; rintro e W1 ⟨rfl, hb1⟩; rw [h1.out]; replace hb := hb.trans hb1; clear hb1)
  go_ret2
  exact ⟨by (rw [hv.out]) <;> rfl, hb⟩
 | true =>
  have h2 := Hd (show sndB m t = false by rw [h1] at hs; simpa using hs)
  have h1 := Hd h1
  clear hs
  go_enter Tryz.func67, Tryz.ntmps67
  go_wp2_with fail
  refine Qac (((Bel.refl w).alloc _).alloc _) fun W hc hf hz hb => ?_
  have hA : Arr2 W w.heap.size n s := by simp [Arr2, hz, hc, hf, go_sem]
  have hB : Arr2 W (w.heap.size + 1) m t := by simp [Arr2, hz, hc, hf, go_sem]
  clear hc hf hz
  go_wp2_with (first
   | (go_at_call_of 39 (Value.agg #[Value.int .i64 n, Value.int .i64 s]); refine (c1.out _).mono ?_; rintro e W1 ⟨rfl, hb1⟩; rw [h1.out]; replace hB := hB.keep hb1; replace hb := hb.trans hb1; clear hb1 hA)
   | (go_at_call_of 39 (Value.agg #[Value.int .i64 m, Value.int .i64 t]); refine (c2.out _).mono ?_; rintro e W2 ⟨rfl, hb1⟩; rw [h2.out]; replace hb := hb.trans hb1; clear hb1))
  go_ret2
  exact ⟨by (rw [hv.out]) <;> rfl, hb⟩
theorem Qpj (n s m t : Int) (h : SndD n s /\ SndD m t) (w : World) : Calls Tryz.prog 67 #[decA n s, decA m t] w fun e w' => e = .returned (cmpV n s m t) /\ Bel w w' := by
 have hv : Hid (cmpV n s m t = .tuple #[.int .i64 (sgn (unt n s) (unt m t)), .int .i64 0]) := iP h
 have c1 := Hd fun w => Qai n s w
 have c2 := Hd fun w => Qai m t w
 have h1 := Hd (Qbf h.1)
 have h2 := Hd (Qbf h.2)
 have la := Hd fun w => Qaf n s h.1 w
 have lb := Hd fun w => Qaf m t h.2 w
 have HU := Hd (show (unt n s).natAbs * 10 ^ 6 < 10 ^ 60 by have := Qk4 h.1; omega)
 have HV := Hd (show (unt m t).natAbs * 10 ^ 6 < 10 ^ 60 by have := Qk4 h.2; omega)
 have hs1 := Hd h.1
 have hs2 := Hd h.2
 have SG := Qve (u := unt n s) (v := unt m t)
 have zu := (Qec n s).1
 have zv := (Qec m t).1
 obtain ⟨⟨-, -, ⟨b1, b2⟩, -⟩, -, -, ⟨b3, b4⟩, -⟩ := h
 by_cases hn : n < 0
 ·by_cases hm : m < 0
  ·have key : True := trivial
   by_cases q1 : (unt n s).natAbs < (unt m t).natAbs
   ·have L := Hd (SG.2.2.2.2.1 (zu.2 (by omega)) (zv.2 (by omega)) q1)
    have r1 := Hd (show decide ((unt n s).natAbs * 10 ^ 6 < (unt m t).natAbs * 10 ^ 6) = true by simp; omega)
    clear q1 zu zv SG
    go_enter Tryz.func67, Tryz.ntmps67
    go_wp2_with fail
    refine Qac (((Bel.refl w).alloc _).alloc _) fun W hc hf hz hb => ?_
    have hA : Arr2 W w.heap.size n s := by simp [Arr2, hz, hc, hf, go_sem]
    have hB : Arr2 W (w.heap.size + 1) m t := by simp [Arr2, hz, hc, hf, go_sem]
    clear hc hf hz
    go_wp2_with (first
     | (go_at_call_of 39 (Value.agg #[Value.int .i64 n, Value.int .i64 s]); refine (c1.out _).mono ?_; rintro e W1 ⟨rfl, hb1⟩; rw [h1.out]; replace hA := hA.keep hb1; replace hB := hB.keep hb1; replace hb := hb.trans hb1; clear hb1)
     | (go_at_call_of 39 (Value.agg #[Value.int .i64 m, Value.int .i64 t]); refine (c2.out _).mono ?_; rintro e W2 ⟨rfl, hb1⟩; rw [h2.out]; replace hA := hA.keep hb1; replace hB := hB.keep hb1; replace hb := hb.trans hb1; clear hb1))
    replace hA := hA.keep (Bel.refl _).drew; replace hB := hB.keep (Bel.refl _).drew; replace hb := hb.drew
    go_region_held3 (fun w' => Arr2 w' w.heap.size n s /\ Arr2 w' (w.heap.size + 1) m t) (first | with_reducible exact ⟨hA, hB⟩ | (simp (maxDischargeDepth := 20) [Arr2, go_sem, hA, hB]; first | done | omega))
     (first
      | (go_at_call 94; have _u := hDa; refine (Qaf _ _ (by first | exact hs1.out | exact hs2.out) _).mono ?_; rintro e V2 ⟨gb, rfl, hgb, hDb, hb1⟩; replace hA := hA.keep hb1; replace hB := hB.keep hb1; replace hDa := hDa.keep hb1; replace hb := hb.trans hb1; clear hb1 hgb _u)
      | (go_at_call 94; refine (Qaf _ _ (by first | exact hs1.out | exact hs2.out) _).mono ?_; rintro e V1 ⟨ga, rfl, hga, hDa, hb1⟩; replace hA := hA.keep hb1; replace hB := hB.keep hb1; replace hb := hb.trans hb1; clear hb1 hga)
      | (go_at_call 93; refine (Qa2 ga gb _ _ HU.out HV.out _ hDa hDb).mono ?_; rintro e V3 ⟨rfl, hb1⟩; rw [r1.out]; replace hA := hA.keep hb1; replace hB := hB.keep hb1; replace hb := hb.trans hb1; clear hb1 hDa hDb))
    go_wp2
    go_ret2
    exact ⟨by (rw [hv.out, L.out]) <;> rfl, hb⟩
   have r1 := Hd (show decide ((unt n s).natAbs * 10 ^ 6 < (unt m t).natAbs * 10 ^ 6) = false by simp; omega)
   by_cases q2 : (unt m t).natAbs < (unt n s).natAbs
   ·have L := Hd (SG.2.2.2.2.2.1 (zu.2 (by omega)) (zv.2 (by omega)) q2)
    have r2 := Hd (show decide ((unt m t).natAbs * 10 ^ 6 < (unt n s).natAbs * 10 ^ 6) = true by simp; omega)
    clear q1 q2 zu zv SG
    go_enter Tryz.func67, Tryz.ntmps67
    go_wp2_with fail
    refine Qac (((Bel.refl w).alloc _).alloc _) fun W hc hf hz hb => ?_
    have hA : Arr2 W w.heap.size n s := by simp [Arr2, hz, hc, hf, go_sem]
    have hB : Arr2 W (w.heap.size + 1) m t := by simp [Arr2, hz, hc, hf, go_sem]
    clear hc hf hz
    go_wp2_with (first
     | (go_at_call_of 39 (Value.agg #[Value.int .i64 n, Value.int .i64 s]); refine (c1.out _).mono ?_; rintro e W1 ⟨rfl, hb1⟩; rw [h1.out]; replace hA := hA.keep hb1; replace hB := hB.keep hb1; replace hb := hb.trans hb1; clear hb1)
     | (go_at_call_of 39 (Value.agg #[Value.int .i64 m, Value.int .i64 t]); refine (c2.out _).mono ?_; rintro e W2 ⟨rfl, hb1⟩; rw [h2.out]; replace hA := hA.keep hb1; replace hB := hB.keep hb1; replace hb := hb.trans hb1; clear hb1))
    replace hA := hA.keep (Bel.refl _).drew; replace hB := hB.keep (Bel.refl _).drew; replace hb := hb.drew
    go_region_held3 (fun w' => Arr2 w' w.heap.size n s /\ Arr2 w' (w.heap.size + 1) m t) (first | with_reducible exact ⟨hA, hB⟩ | (simp (maxDischargeDepth := 20) [Arr2, go_sem, hA, hB]; first | done | omega))
     (first
      | (go_at_call 94; have _u := hDa; refine (Qaf _ _ (by first | exact hs1.out | exact hs2.out) _).mono ?_; rintro e V2 ⟨gb, rfl, hgb, hDb, hb1⟩; replace hA := hA.keep hb1; replace hB := hB.keep hb1; replace hDa := hDa.keep hb1; replace hb := hb.trans hb1; clear hb1 hgb _u)
      | (go_at_call 94; refine (Qaf _ _ (by first | exact hs1.out | exact hs2.out) _).mono ?_; rintro e V1 ⟨ga, rfl, hga, hDa, hb1⟩; replace hA := hA.keep hb1; replace hB := hB.keep hb1; replace hb := hb.trans hb1; clear hb1 hga)
      | (go_at_call 93; refine (Qa2 ga gb _ _ HU.out HV.out _ hDa hDb).mono ?_; rintro e V3 ⟨rfl, hb1⟩; rw [r1.out]; replace hA := hA.keep hb1; replace hB := hB.keep hb1; replace hb := hb.trans hb1; clear hb1 hDa hDb))
    go_wp2
    replace hA := hA.keep (Bel.refl _).drew; replace hB := hB.keep (Bel.refl _).drew; replace hb := hb.drew
    go_region_held3 (fun w' => Arr2 w' w.heap.size n s /\ Arr2 w' (w.heap.size + 1) m t) (first | with_reducible exact ⟨hA, hB⟩ | (simp (maxDischargeDepth := 20) [Arr2, go_sem, hA, hB]; first | done | omega))
     (first
      | (go_at_call 94; have _u := hDa; refine (Qaf _ _ (by first | exact hs1.out | exact hs2.out) _).mono ?_; rintro e V2 ⟨gb, rfl, hgb, hDb, hb1⟩; replace hA := hA.keep hb1; replace hB := hB.keep hb1; replace hDa := hDa.keep hb1; replace hb := hb.trans hb1; clear hb1 hgb _u)
      | (go_at_call 94; refine (Qaf _ _ (by first | exact hs1.out | exact hs2.out) _).mono ?_; rintro e V1 ⟨ga, rfl, hga, hDa, hb1⟩; replace hA := hA.keep hb1; replace hB := hB.keep hb1; replace hb := hb.trans hb1; clear hb1 hga)
      | (go_at_call 93; refine (Qa2 ga gb _ _ HV.out HU.out _ hDa hDb).mono ?_; rintro e V3 ⟨rfl, hb1⟩; rw [r2.out]; replace hA := hA.keep hb1; replace hB := hB.keep hb1; replace hb := hb.trans hb1; clear hb1 hDa hDb))
    go_wp2
    go_ret2
    exact ⟨by (rw [hv.out, L.out]) <;> rfl, hb⟩
   have L := Hd (SG.2.2.2.2.2.2 (by omega) (by omega))
   have r2 := Hd (show decide ((unt m t).natAbs * 10 ^ 6 < (unt n s).natAbs * 10 ^ 6) = false by simp; omega)
   clear q1 q2 zu zv SG
   go_enter Tryz.func67, Tryz.ntmps67
   go_wp2_with fail
   refine Qac (((Bel.refl w).alloc _).alloc _) fun W hc hf hz hb => ?_
   have hA : Arr2 W w.heap.size n s := by simp [Arr2, hz, hc, hf, go_sem]
   have hB : Arr2 W (w.heap.size + 1) m t := by simp [Arr2, hz, hc, hf, go_sem]
   clear hc hf hz
   go_wp2_with (first
    | (go_at_call_of 39 (Value.agg #[Value.int .i64 n, Value.int .i64 s]); refine (c1.out _).mono ?_; rintro e W1 ⟨rfl, hb1⟩; rw [h1.out]; replace hA := hA.keep hb1; replace hB := hB.keep hb1; replace hb := hb.trans hb1; clear hb1)
    | (go_at_call_of 39 (Value.agg #[Value.int .i64 m, Value.int .i64 t]); refine (c2.out _).mono ?_; rintro e W2 ⟨rfl, hb1⟩; rw [h2.out]; replace hA := hA.keep hb1; replace hB := hB.keep hb1; replace hb := hb.trans hb1; clear hb1))
   replace hA := hA.keep (Bel.refl _).drew; replace hB := hB.keep (Bel.refl _).drew; replace hb := hb.drew
   go_region_held3 (fun w' => Arr2 w' w.heap.size n s /\ Arr2 w' (w.heap.size + 1) m t) (first | with_reducible exact ⟨hA, hB⟩ | (simp (maxDischargeDepth := 20) [Arr2, go_sem, hA, hB]; first | done | omega))
    (first
     | (go_at_call 94; have _u := hDa; refine (Qaf _ _ (by first | exact hs1.out | exact hs2.out) _).mono ?_; rintro e V2 ⟨gb, rfl, hgb, hDb, hb1⟩; replace hA := hA.keep hb1; replace hB := hB.keep hb1; replace hDa := hDa.keep hb1; replace hb := hb.trans hb1; clear hb1 hgb _u)
     | (go_at_call 94; refine (Qaf _ _ (by first | exact hs1.out | exact hs2.out) _).mono ?_; rintro e V1 ⟨ga, rfl, hga, hDa, hb1⟩; replace hA := hA.keep hb1; replace hB := hB.keep hb1; replace hb := hb.trans hb1; clear hb1 hga)
     | (go_at_call 93; refine (Qa2 ga gb _ _ HU.out HV.out _ hDa hDb).mono ?_; rintro e V3 ⟨rfl, hb1⟩; rw [r1.out]; replace hA := hA.keep hb1; replace hB := hB.keep hb1; replace hb := hb.trans hb1; clear hb1 hDa hDb))
   go_wp2
   replace hA := hA.keep (Bel.refl _).drew; replace hB := hB.keep (Bel.refl _).drew; replace hb := hb.drew
   go_region_held3 (fun w' => Arr2 w' w.heap.size n s /\ Arr2 w' (w.heap.size + 1) m t) (first | with_reducible exact ⟨hA, hB⟩ | (simp (maxDischargeDepth := 20) [Arr2, go_sem, hA, hB]; first | done | omega))
    (first
     | (go_at_call 94; have _u := hDa; refine (Qaf _ _ (by first | exact hs1.out | exact hs2.out) _).mono ?_; rintro e V2 ⟨gb, rfl, hgb, hDb, hb1⟩; replace hA := hA.keep hb1; replace hB := hB.keep hb1; replace hDa := hDa.keep hb1; replace hb := hb.trans hb1; clear hb1 hgb _u)
     | (go_at_call 94; refine (Qaf _ _ (by first | exact hs1.out | exact hs2.out) _).mono ?_; rintro e V1 ⟨ga, rfl, hga, hDa, hb1⟩; replace hA := hA.keep hb1; replace hB := hB.keep hb1; replace hb := hb.trans hb1; clear hb1 hga)
     | (go_at_call 93; refine (Qa2 ga gb _ _ HV.out HU.out _ hDa hDb).mono ?_; rintro e V3 ⟨rfl, hb1⟩; rw [r2.out]; replace hA := hA.keep hb1; replace hB := hB.keep hb1; replace hb := hb.trans hb1; clear hb1 hDa hDb))
   go_wp2
   go_ret2
   exact ⟨by (rw [hv.out, L.out]) <;> rfl, hb⟩
  have L := Hd (SG.1 (zu.2 hn) (by omega))
  have hm' : 0 <= m := by omega
  clear hm zu zv SG
  go_enter Tryz.func67, Tryz.ntmps67
  go_wp2_with fail
  refine Qac (((Bel.refl w).alloc _).alloc _) fun W hc hf hz hb => ?_
  have hA : Arr2 W w.heap.size n s := by simp [Arr2, hz, hc, hf, go_sem]
  have hB : Arr2 W (w.heap.size + 1) m t := by simp [Arr2, hz, hc, hf, go_sem]
  clear hc hf hz
  go_wp2_with (first
   | (go_at_call_of 39 (Value.agg #[Value.int .i64 n, Value.int .i64 s]); refine (c1.out _).mono ?_; rintro e W1 ⟨rfl, hb1⟩; rw [h1.out]; replace hA := hA.keep hb1; replace hB := hB.keep hb1; replace hb := hb.trans hb1; clear hb1)
   | (go_at_call_of 39 (Value.agg #[Value.int .i64 m, Value.int .i64 t]); refine (c2.out _).mono ?_; rintro e W2 ⟨rfl, hb1⟩; rw [h2.out]; replace hA := hA.keep hb1; replace hB := hB.keep hb1; replace hb := hb.trans hb1; clear hb1))
  go_wp2
  go_ret2
  exact ⟨by (rw [hv.out, L.out]) <;> rfl, hb⟩
 by_cases hm : m < 0
 ·have L := Hd (SG.2.1 (by omega) (zv.2 hm))
  have hn' : 0 <= n := by omega
  clear hn zu zv SG
  go_enter Tryz.func67, Tryz.ntmps67
  go_wp2_with fail
  refine Qac (((Bel.refl w).alloc _).alloc _) fun W hc hf hz hb => ?_
  have hA : Arr2 W w.heap.size n s := by simp [Arr2, hz, hc, hf, go_sem]
  have hB : Arr2 W (w.heap.size + 1) m t := by simp [Arr2, hz, hc, hf, go_sem]
  clear hc hf hz
  go_wp2_with (first
   | (go_at_call_of 39 (Value.agg #[Value.int .i64 n, Value.int .i64 s]); refine (c1.out _).mono ?_; rintro e W1 ⟨rfl, hb1⟩; rw [h1.out]; replace hA := hA.keep hb1; replace hB := hB.keep hb1; replace hb := hb.trans hb1; clear hb1)
   | (go_at_call_of 39 (Value.agg #[Value.int .i64 m, Value.int .i64 t]); refine (c2.out _).mono ?_; rintro e W2 ⟨rfl, hb1⟩; rw [h2.out]; replace hA := hA.keep hb1; replace hB := hB.keep hb1; replace hb := hb.trans hb1; clear hb1))
  go_wp2
  go_ret2
  exact ⟨by (rw [hv.out, L.out]) <;> rfl, hb⟩
 have hm' : 0 <= m := by omega
 have hn' : 0 <= n := by omega
 by_cases q1 : (unt n s).natAbs < (unt m t).natAbs
 ·have L := Hd (SG.2.2.1 (by omega) (by omega) q1)
  have r1 := Hd (show decide ((unt n s).natAbs * 10 ^ 6 < (unt m t).natAbs * 10 ^ 6) = true by simp; omega)
  clear q1 zu zv SG
  go_enter Tryz.func67, Tryz.ntmps67
  go_wp2_with fail
  refine Qac (((Bel.refl w).alloc _).alloc _) fun W hc hf hz hb => ?_
  have hA : Arr2 W w.heap.size n s := by simp [Arr2, hz, hc, hf, go_sem]
  have hB : Arr2 W (w.heap.size + 1) m t := by simp [Arr2, hz, hc, hf, go_sem]
  clear hc hf hz
  go_wp2_with (first
   | (go_at_call_of 39 (Value.agg #[Value.int .i64 n, Value.int .i64 s]); refine (c1.out _).mono ?_; rintro e W1 ⟨rfl, hb1⟩; rw [h1.out]; replace hA := hA.keep hb1; replace hB := hB.keep hb1; replace hb := hb.trans hb1; clear hb1)
   | (go_at_call_of 39 (Value.agg #[Value.int .i64 m, Value.int .i64 t]); refine (c2.out _).mono ?_; rintro e W2 ⟨rfl, hb1⟩; rw [h2.out]; replace hA := hA.keep hb1; replace hB := hB.keep hb1; replace hb := hb.trans hb1; clear hb1))
  replace hA := hA.keep (Bel.refl _).drew; replace hB := hB.keep (Bel.refl _).drew; replace hb := hb.drew
  go_region_held3 (fun w' => Arr2 w' w.heap.size n s /\ Arr2 w' (w.heap.size + 1) m t) (first | with_reducible exact ⟨hA, hB⟩ | (simp (maxDischargeDepth := 20) [Arr2, go_sem, hA, hB]; first | done | omega))
   (first
    | (go_at_call 94; have _u := hDa; refine (Qaf _ _ (by first | exact hs1.out | exact hs2.out) _).mono ?_; rintro e V2 ⟨gb, rfl, hgb, hDb, hb1⟩; replace hA := hA.keep hb1; replace hB := hB.keep hb1; replace hDa := hDa.keep hb1; replace hb := hb.trans hb1; clear hb1 hgb _u)
    | (go_at_call 94; refine (Qaf _ _ (by first | exact hs1.out | exact hs2.out) _).mono ?_; rintro e V1 ⟨ga, rfl, hga, hDa, hb1⟩; replace hA := hA.keep hb1; replace hB := hB.keep hb1; replace hb := hb.trans hb1; clear hb1 hga)
    | (go_at_call 93; refine (Qa2 ga gb _ _ HU.out HV.out _ hDa hDb).mono ?_; rintro e V3 ⟨rfl, hb1⟩; rw [r1.out]; replace hA := hA.keep hb1; replace hB := hB.keep hb1; replace hb := hb.trans hb1; clear hb1 hDa hDb))
  go_wp2
  go_ret2
  exact ⟨by (rw [hv.out, L.out]) <;> rfl, hb⟩
 have r1 := Hd (show decide ((unt n s).natAbs * 10 ^ 6 < (unt m t).natAbs * 10 ^ 6) = false by simp; omega)
 by_cases q2 : (unt m t).natAbs < (unt n s).natAbs
 ·have L := Hd (SG.2.2.2.1 (by omega) (by omega) q2)
  have r2 := Hd (show decide ((unt m t).natAbs * 10 ^ 6 < (unt n s).natAbs * 10 ^ 6) = true by simp; omega)
  clear q1 q2 zu zv SG
  go_enter Tryz.func67, Tryz.ntmps67
  go_wp2_with fail
  refine Qac (((Bel.refl w).alloc _).alloc _) fun W hc hf hz hb => ?_
  have hA : Arr2 W w.heap.size n s := by simp [Arr2, hz, hc, hf, go_sem]
  have hB : Arr2 W (w.heap.size + 1) m t := by simp [Arr2, hz, hc, hf, go_sem]
  clear hc hf hz
  go_wp2_with (first
   | (go_at_call_of 39 (Value.agg #[Value.int .i64 n, Value.int .i64 s]); refine (c1.out _).mono ?_; rintro e W1 ⟨rfl, hb1⟩; rw [h1.out]; replace hA := hA.keep hb1; replace hB := hB.keep hb1; replace hb := hb.trans hb1; clear hb1)
   | (go_at_call_of 39 (Value.agg #[Value.int .i64 m, Value.int .i64 t]); refine (c2.out _).mono ?_; rintro e W2 ⟨rfl, hb1⟩; rw [h2.out]; replace hA := hA.keep hb1; replace hB := hB.keep hb1; replace hb := hb.trans hb1; clear hb1))
  replace hA := hA.keep (Bel.refl _).drew; replace hB := hB.keep (Bel.refl _).drew; replace hb := hb.drew
  go_region_held3 (fun w' => Arr2 w' w.heap.size n s /\ Arr2 w' (w.heap.size + 1) m t) (first | with_reducible exact ⟨hA, hB⟩ | (simp (maxDischargeDepth := 20) [Arr2, go_sem, hA, hB]; first | done | omega))
   (first
    | (go_at_call 94; have _u := hDa; refine (Qaf _ _ (by first | exact hs1.out | exact hs2.out) _).mono ?_; rintro e V2 ⟨gb, rfl, hgb, hDb, hb1⟩; replace hA := hA.keep hb1; replace hB := hB.keep hb1; replace hDa := hDa.keep hb1; replace hb := hb.trans hb1; clear hb1 hgb _u)
    | (go_at_call 94; refine (Qaf _ _ (by first | exact hs1.out | exact hs2.out) _).mono ?_; rintro e V1 ⟨ga, rfl, hga, hDa, hb1⟩; replace hA := hA.keep hb1; replace hB := hB.keep hb1; replace hb := hb.trans hb1; clear hb1 hga)
    | (go_at_call 93; refine (Qa2 ga gb _ _ HU.out HV.out _ hDa hDb).mono ?_; rintro e V3 ⟨rfl, hb1⟩; rw [r1.out]; replace hA := hA.keep hb1; replace hB := hB.keep hb1; replace hb := hb.trans hb1; clear hb1 hDa hDb))
  go_wp2
  replace hA := hA.keep (Bel.refl _).drew; replace hB := hB.keep (Bel.refl _).drew; replace hb := hb.drew
  go_region_held3 (fun w' => Arr2 w' w.heap.size n s /\ Arr2 w' (w.heap.size + 1) m t) (first | with_reducible exact ⟨hA, hB⟩ | (simp (maxDischargeDepth := 20) [Arr2, go_sem, hA, hB]; first | done | omega))
   (first
    | (go_at_call 94; have _u := hDa; refine (Qaf _ _ (by first | exact hs1.out | exact hs2.out) _).mono ?_; rintro e V2 ⟨gb, rfl, hgb, hDb, hb1⟩; replace hA := hA.keep hb1; replace hB := hB.keep hb1; replace hDa := hDa.keep hb1; replace hb := hb.trans hb1; clear hb1 hgb _u)
    | (go_at_call 94; refine (Qaf _ _ (by first | exact hs1.out | exact hs2.out) _).mono ?_; rintro e V1 ⟨ga, rfl, hga, hDa, hb1⟩; replace hA := hA.keep hb1; replace hB := hB.keep hb1; replace hb := hb.trans hb1; clear hb1 hga)
    | (go_at_call 93; refine (Qa2 ga gb _ _ HV.out HU.out _ hDa hDb).mono ?_; rintro e V3 ⟨rfl, hb1⟩; rw [r2.out]; replace hA := hA.keep hb1; replace hB := hB.keep hb1; replace hb := hb.trans hb1; clear hb1 hDa hDb))
  go_wp2
  go_ret2
  exact ⟨by (rw [hv.out, L.out]) <;> rfl, hb⟩
 have L := Hd (SG.2.2.2.2.2.2 (by omega) (by omega))
 have r2 := Hd (show decide ((unt m t).natAbs * 10 ^ 6 < (unt n s).natAbs * 10 ^ 6) = false by simp; omega)
 clear q1 q2 zu zv SG
 go_enter Tryz.func67, Tryz.ntmps67
 go_wp2_with fail
 refine Qac (((Bel.refl w).alloc _).alloc _) fun W hc hf hz hb => ?_
 have hA : Arr2 W w.heap.size n s := by simp [Arr2, hz, hc, hf, go_sem]
 have hB : Arr2 W (w.heap.size + 1) m t := by simp [Arr2, hz, hc, hf, go_sem]
 clear hc hf hz
 go_wp2_with (first
  | (go_at_call_of 39 (Value.agg #[Value.int .i64 n, Value.int .i64 s]); refine (c1.out _).mono ?_; rintro e W1 ⟨rfl, hb1⟩; rw [h1.out]; replace hA := hA.keep hb1; replace hB := hB.keep hb1; replace hb := hb.trans hb1; clear hb1)
  | (go_at_call_of 39 (Value.agg #[Value.int .i64 m, Value.int .i64 t]); refine (c2.out _).mono ?_; rintro e W2 ⟨rfl, hb1⟩; rw [h2.out]; replace hA := hA.keep hb1; replace hB := hB.keep hb1; replace hb := hb.trans hb1; clear hb1))
 replace hA := hA.keep (Bel.refl _).drew; replace hB := hB.keep (Bel.refl _).drew; replace hb := hb.drew
 go_region_held3 (fun w' => Arr2 w' w.heap.size n s /\ Arr2 w' (w.heap.size + 1) m t) (first | with_reducible exact ⟨hA, hB⟩ | (simp (maxDischargeDepth := 20) [Arr2, go_sem, hA, hB]; first | done | omega))
  (first
   | (go_at_call 94; have _u := hDa; refine (Qaf _ _ (by first | exact hs1.out | exact hs2.out) _).mono ?_; rintro e V2 ⟨gb, rfl, hgb, hDb, hb1⟩; replace hA := hA.keep hb1; replace hB := hB.keep hb1; replace hDa := hDa.keep hb1; replace hb := hb.trans hb1; clear hb1 hgb _u)
   | (go_at_call 94; refine (Qaf _ _ (by first | exact hs1.out | exact hs2.out) _).mono ?_; rintro e V1 ⟨ga, rfl, hga, hDa, hb1⟩; replace hA := hA.keep hb1; replace hB := hB.keep hb1; replace hb := hb.trans hb1; clear hb1 hga)
   | (go_at_call 93; refine (Qa2 ga gb _ _ HU.out HV.out _ hDa hDb).mono ?_; rintro e V3 ⟨rfl, hb1⟩; rw [r1.out]; replace hA := hA.keep hb1; replace hB := hB.keep hb1; replace hb := hb.trans hb1; clear hb1 hDa hDb))
 go_wp2
 replace hA := hA.keep (Bel.refl _).drew; replace hB := hB.keep (Bel.refl _).drew; replace hb := hb.drew
 go_region_held3 (fun w' => Arr2 w' w.heap.size n s /\ Arr2 w' (w.heap.size + 1) m t) (first | with_reducible exact ⟨hA, hB⟩ | (simp (maxDischargeDepth := 20) [Arr2, go_sem, hA, hB]; first | done | omega))
  (first
   | (go_at_call 94; have _u := hDa; refine (Qaf _ _ (by first | exact hs1.out | exact hs2.out) _).mono ?_; rintro e V2 ⟨gb, rfl, hgb, hDb, hb1⟩; replace hA := hA.keep hb1; replace hB := hB.keep hb1; replace hDa := hDa.keep hb1; replace hb := hb.trans hb1; clear hb1 hgb _u)
   | (go_at_call 94; refine (Qaf _ _ (by first | exact hs1.out | exact hs2.out) _).mono ?_; rintro e V1 ⟨ga, rfl, hga, hDa, hb1⟩; replace hA := hA.keep hb1; replace hB := hB.keep hb1; replace hb := hb.trans hb1; clear hb1 hga)
   | (go_at_call 93; refine (Qa2 ga gb _ _ HV.out HU.out _ hDa hDb).mono ?_; rintro e V3 ⟨rfl, hb1⟩; rw [r2.out]; replace hA := hA.keep hb1; replace hB := hB.keep hb1; replace hb := hb.trans hb1; clear hb1 hDa hDb))
 go_wp2
 go_ret2
 exact ⟨by (rw [hv.out, L.out]) <;> rfl, hb⟩
theorem Qr5 (n s m t : Int) (w : World) : Calls Tryz.prog 67 #[decA n s, decA m t] w fun e w' => e = .returned (cmpV n s m t) /\ Bel w w' := by
 by_cases h : SndD n s /\ SndD m t
 ·exact Qpj n s m t h w
 exact Qr4 n s m t h w
theorem Qes {n s m t : Int} (h : SndD n s /\ SndD m t) (bl : Bool) (Z : Nat) (hz : (unt n s + unt m t).natAbs = Z) (hb : Z ≠ 0 -> bl = decide (unt n s + unt m t < 0)) : decV bl Z 6 = addV n s m t := by
 rw [show addV n s m t = _ from iP h, hz]
 by_cases h0 : Z = 0
 ·subst h0; exact Qpg _ _ _
 rw [hb h0]
theorem rdec12 (Z : Nat) (bl : Bool) (g : Nat) (hZ : Z <= 10 ^ 20) (w : World) (hrow : DRow w g 0 60 (dg (Z * 10 ^ 6))) :
  Calls Tryz.prog 124 #[.slice (some ⟨g, 0, none⟩) 60 60, .int .i64 12, .bool bl] w fun e w' => e = .returned (decV bl Z 6) /\ Bel w w' := by
 have h := Qhg (Z * 10 ^ 6) 12 bl g (by omega) (by omega) w hrow
 have e : rnd (Z * 10 ^ 6) 12 = Z := by
  unfold rnd
  rw [iP (by omega)]
  have := Qia Z 1 (10 ^ 6) (by omega)
  rw [Nat.one_mul, Qo7] at this
  exact this
 rw [e] at h
 exact h
theorem Qdg (x : Bool) (m s : Nat) : ∃ a b e, decV x m s = .tuple #[.agg #[.int .i64 a, .int .i64 b], .int .i64 e] := Qco x m s
theorem Qig (U V g1 g2 : Nat) (w : World) (h1 : DRow w g1 0 60 (dg (U * 10 ^ 6))) (h2 : DRow w g2 0 60 (dg (V * 10 ^ 6))) :
  Calls Tryz.prog 125 #[.slice (some ⟨g1, 0, none⟩) 60 60, .slice (some ⟨g2, 0, none⟩) 60 60] w (LongOut ((U + V) * 10 ^ 6) w) :=
 (Qie 60 (by omega) (by omega) g1 0 60 g2 _ _ w h1 h2).mono fun e w' ⟨he, h3, h4⟩ => ⟨_, he, Nat.le_refl _, by rw [Nat.add_mul]; exact h3, h4⟩
theorem Qdh (U V g1 g2 : Nat) (hle : V <= U) (w : World) (h1 : DRow w g1 0 60 (dg (U * 10 ^ 6))) (h2 : DRow w g2 0 60 (dg (V * 10 ^ 6))) :
  Calls Tryz.prog 126 #[.slice (some ⟨g1, 0, none⟩) 60 60, .slice (some ⟨g2, 0, none⟩) 60 60] w (LongOut ((U - V) * 10 ^ 6) w) := by
 have := Ql4 g1 g2 (U * 10 ^ 6) (V * 10 ^ 6) (Nat.mul_le_mul_right _ hle) w h1 h2
 rwa [← Nat.sub_mul] at this
theorem Qr6 (n s m t : Int) (h : ¬ (SndD n s /\ SndD m t)) (w : World) : Calls Tryz.prog 84 #[decA n s, decA m t] w fun e w' => e = .returned (addV n s m t) /\ Bel w w' := by
 have hv : Hid (addV n s m t = errV 2) := iN h
 have hs := Qcy h
 have c1 := Hd fun w => Qai n s w
 have c2 := Hd fun w => Qai m t w
 clear h
 cases h1 : sndB n s with
 | false =>
  have h1 := Hd h1
  clear hs
  go_enter Tryz.func84, Tryz.ntmps84
  go_wp2_with fail
  refine Qac ((((Bel.refl w).alloc _).alloc _).alloc _) fun W hc hf hz hb => ?_
  have hA : Arr2 W w.heap.size n s := by simp [Arr2, hz, hc, hf, go_sem]
  have hR : Sl2 W (w.heap.size + 1 + 1) 0 0 := by simp [Sl2, Arr2, Fr2, hz, hc, hf, go_sem]
  clear hc hf hz
  go_wp2_with (go_at_call 39; refine (c1.out _).mono ?_; rintro e W1 ⟨rfl, hb1⟩; rw [h1.out]; replace hR := hR.keep hb1; replace hb := hb.trans hb1; clear hb1)
  refine pR (by simp [results, Tryz.results84, go_sem, hR]; try rfl) rfl ⟨by (rw [hv.out]) <;> rfl, ?_⟩
  exact Bel.y
 | true =>
  have h2 := Hd (show sndB m t = false by rw [h1] at hs; simpa using hs)
  have h1 := Hd h1
  clear hs
  go_enter Tryz.func84, Tryz.ntmps84
  go_wp2_with fail
  refine Qac ((((Bel.refl w).alloc _).alloc _).alloc _) fun W hc hf hz hb => ?_
  have hA : Arr2 W w.heap.size n s := by simp [Arr2, hz, hc, hf, go_sem]
  have hB : Arr2 W (w.heap.size + 1) m t := by simp [Arr2, hz, hc, hf, go_sem]
  have hR : Sl2 W (w.heap.size + 1 + 1) 0 0 := by simp [Sl2, Arr2, Fr2, hz, hc, hf, go_sem]
  clear hc hf hz
  go_wp2_with (first
   | (go_at_call 39; with_reducible refine (c1.out _).mono ?_; rintro e W1 ⟨rfl, hb1⟩; rw [h1.out]; replace hB := hB.keep hb1; replace hR := hR.keep hb1; replace hb := hb.trans hb1; clear hb1 hA)
   | (go_at_call 39; with_reducible refine (c2.out _).mono ?_; rintro e W2 ⟨rfl, hb1⟩; rw [h2.out]; replace hR := hR.keep hb1; replace hb := hb.trans hb1; clear hb1))
  refine pR (by simp [results, Tryz.results84, go_sem, hR]; try rfl) rfl ⟨by (rw [hv.out]) <;> rfl, ?_⟩
  exact Bel.y
theorem Qpk (n s m t : Int) (h : SndD n s /\ SndD m t) (w : World) : Calls Tryz.prog 84 #[decA n s, decA m t] w fun e w' => e = .returned (addV n s m t) /\ Bel w w' := by
 have c1 := Hd fun w => Qai n s w
 have c2 := Hd fun w => Qai m t w
 have h1 := Hd (Qbf h.1)
 have h2 := Hd (Qbf h.2)
 have hs1 := Hd h.1
 have hs2 := Hd h.2
 have bu := Qk4 h.1
 have bv := Qk4 h.2
 have HU := Hd (show (unt n s).natAbs * 10 ^ 6 < 10 ^ 60 by omega)
 have HV := Hd (show (unt m t).natAbs * 10 ^ 6 < 10 ^ 60 by omega)
 have zu := (Qec n s).1
 have zv := (Qec m t).1
 by_cases hn : n < 0
 ·by_cases hm : m < 0
  ·have hv0 := Qes h true ((unt n s).natAbs + (unt m t).natAbs) (by omega) (fun h0 => by symm; first | exact dT (by omega) | exact dF (by omega))
   obtain ⟨x1, x2, x3, hd⟩ := Qdg true ((unt n s).natAbs + (unt m t).natAbs) 6
   have hZ := Hd (show (unt n s).natAbs + (unt m t).natAbs <= 10 ^ 20 by omega)
   have HD := Hd hd
   have hv := Hd (hd.symm.trans hv0)
   clear hv0 hd h bu bv zu zv
   go_enter Tryz.func84, Tryz.ntmps84
   go_wp2_with fail
   refine Qac ((((Bel.refl w).alloc _).alloc _).alloc _) fun W hc hf hz hb => ?_
   have hA : Arr2 W w.heap.size n s := by simp [Arr2, hz, hc, hf, go_sem]
   have hB : Arr2 W (w.heap.size + 1) m t := by simp [Arr2, hz, hc, hf, go_sem]
   have hR : Sl2 W (w.heap.size + 1 + 1) 0 0 := by simp [Sl2, Arr2, Fr2, hz, hc, hf, go_sem]
   clear hc hf hz
   go_wp2_with (first
    | (go_at_call 39; with_reducible refine (c1.out _).mono ?_; rintro e W1 ⟨rfl, hb1⟩; rw [h1.out]; replace hA := hA.keep hb1; replace hB := hB.keep hb1; replace hR := hR.keep hb1; replace hb := hb.trans hb1; clear hb1)
    | (go_at_call 39; with_reducible refine (c2.out _).mono ?_; rintro e W2 ⟨rfl, hb1⟩; rw [h2.out]; replace hA := hA.keep hb1; replace hB := hB.keep hb1; replace hR := hR.keep hb1; replace hb := hb.trans hb1; clear hb1))
   replace hA := hA.keep (Bel.refl _).drew; replace hB := hB.keep (Bel.refl _).drew; replace hR := hR.keep (Bel.refl _).drew; replace hb := hb.drew
   go_region_held3 (fun w' => Arr2 w' w.heap.size n s /\ Arr2 w' (w.heap.size + 1) m t) (first | with_reducible exact ⟨hA, hB⟩ | (simp (maxDischargeDepth := 20) [Arr2, go_sem, hA, hB]; first | done | omega))
    (first
     | (go_at_call 94; have _u := hDa; refine (Qaf _ _ (by first | exact hs1.out | exact hs2.out) _).mono ?_; rintro e V2 ⟨gb, rfl, hgb, hDb, hb1⟩; replace hA := hA.keep hb1; replace hB := hB.keep hb1; replace hR := hR.keep hb1; replace hDa := hDa.keep hb1; replace hb := hb.trans hb1; clear hb1 hgb _u)
     | (go_at_call 94; refine (Qaf _ _ (by first | exact hs1.out | exact hs2.out) _).mono ?_; rintro e V1 ⟨ga, rfl, hga, hDa, hb1⟩; replace hA := hA.keep hb1; replace hB := hB.keep hb1; replace hR := hR.keep hb1; replace hb := hb.trans hb1; clear hb1 hga))
   go_wp2
   replace hA := hA.keep (Bel.refl _).drew; replace hB := hB.keep (Bel.refl _).drew; replace hR := hR.keep (Bel.refl _).drew; replace hDa := hDa.keep (Bel.refl _).drew; replace hDb := hDb.keep (Bel.refl _).drew; replace hb := hb.drew
   go_region_held3 (fun w' => Arr2 w' w.heap.size n s /\ Arr2 w' (w.heap.size + 1) m t) (first | with_reducible exact ⟨hA, hB⟩ | (simp (maxDischargeDepth := 20) [Arr2, go_sem, hA, hB]; first | done | omega))
    (first
     | (go_at_call 125; refine (Qig _ _ ga gb _ hDa hDb).mono ?_; rintro e V4 ⟨gc, rfl, hgc, hDc, hb1⟩; replace hA := hA.keep hb1; replace hB := hB.keep hb1; replace hR := hR.keep hb1; replace hb := hb.trans hb1; clear hb1 hgc hDa hDb)
     | (go_at_call 124; refine (rdec12 _ _ gc hZ.out _ hDc).mono ?_; rintro e V5 ⟨rfl, hb1⟩; rw [HD.out]; replace hA := hA.keep hb1; replace hB := hB.keep hb1; replace hR := hR.keep hb1; replace hb := hb.trans hb1; clear hb1 hDc))
   all_goals
    go_wp2
    refine pR (by simp [results, Tryz.results84, go_sem, hR]; try rfl) rfl ⟨by (rw [← hv.out]) <;> rfl, ?_⟩
    exact Bel.y
  have hm' : 0 <= m := by omega
  have hmd : decide (m < 0) = false := by simp; omega
  by_cases q1 : (unt n s).natAbs < (unt m t).natAbs
  ·have hv0 := Qes h false ((unt m t).natAbs - (unt n s).natAbs) (by omega) (fun h0 => by symm; first | exact dT (by omega) | exact dF (by omega))
   obtain ⟨x1, x2, x3, hd⟩ := Qdg false ((unt m t).natAbs - (unt n s).natAbs) 6
   have hZ := Hd (show (unt m t).natAbs - (unt n s).natAbs <= 10 ^ 20 by omega)
   have HD := Hd hd
   have hv := Hd (hd.symm.trans hv0)
   have r1 := Hd (show decide ((unt n s).natAbs * 10 ^ 6 < (unt m t).natAbs * 10 ^ 6) = true by simp; omega)
   have hle := Hd (show (unt n s).natAbs <= (unt m t).natAbs by omega)
   clear q1
   clear hv0 hd h bu bv zu zv
   go_enter Tryz.func84, Tryz.ntmps84
   go_wp2_with fail
   refine Qac ((((Bel.refl w).alloc _).alloc _).alloc _) fun W hc hf hz hb => ?_
   have hA : Arr2 W w.heap.size n s := by simp [Arr2, hz, hc, hf, go_sem]
   have hB : Arr2 W (w.heap.size + 1) m t := by simp [Arr2, hz, hc, hf, go_sem]
   have hR : Sl2 W (w.heap.size + 1 + 1) 0 0 := by simp [Sl2, Arr2, Fr2, hz, hc, hf, go_sem]
   clear hc hf hz
   go_wp2_with (first
    | (go_at_call 39; with_reducible refine (c1.out _).mono ?_; rintro e W1 ⟨rfl, hb1⟩; rw [h1.out]; replace hA := hA.keep hb1; replace hB := hB.keep hb1; replace hR := hR.keep hb1; replace hb := hb.trans hb1; clear hb1)
    | (go_at_call 39; with_reducible refine (c2.out _).mono ?_; rintro e W2 ⟨rfl, hb1⟩; rw [h2.out]; replace hA := hA.keep hb1; replace hB := hB.keep hb1; replace hR := hR.keep hb1; replace hb := hb.trans hb1; clear hb1))
   replace hA := hA.keep (Bel.refl _).drew; replace hB := hB.keep (Bel.refl _).drew; replace hR := hR.keep (Bel.refl _).drew; replace hb := hb.drew
   go_region_held3 (fun w' => Arr2 w' w.heap.size n s /\ Arr2 w' (w.heap.size + 1) m t) (first | with_reducible exact ⟨hA, hB⟩ | (simp (maxDischargeDepth := 20) [Arr2, go_sem, hA, hB]; first | done | omega))
    (first
     | (go_at_call 94; have _u := hDa; refine (Qaf _ _ (by first | exact hs1.out | exact hs2.out) _).mono ?_; rintro e V2 ⟨gb, rfl, hgb, hDb, hb1⟩; replace hA := hA.keep hb1; replace hB := hB.keep hb1; replace hR := hR.keep hb1; replace hDa := hDa.keep hb1; replace hb := hb.trans hb1; clear hb1 hgb _u)
     | (go_at_call 94; refine (Qaf _ _ (by first | exact hs1.out | exact hs2.out) _).mono ?_; rintro e V1 ⟨ga, rfl, hga, hDa, hb1⟩; replace hA := hA.keep hb1; replace hB := hB.keep hb1; replace hR := hR.keep hb1; replace hb := hb.trans hb1; clear hb1 hga))
   go_wp2_with (go_at_call 93; refine (Qa2 ga gb _ _ HU.out HV.out _ hDa hDb).mono ?_; rintro e V3 ⟨rfl, hb1⟩; rw [r1.out]; replace hA := hA.keep hb1; replace hB := hB.keep hb1; replace hR := hR.keep hb1; replace hDa := hDa.keep hb1; replace hDb := hDb.keep hb1; replace hb := hb.trans hb1; clear hb1)
   all_goals
    replace hA := hA.keep (Bel.refl _).drew; replace hB := hB.keep (Bel.refl _).drew; replace hR := hR.keep (Bel.refl _).drew; replace hDa := hDa.keep (Bel.refl _).drew; replace hDb := hDb.keep (Bel.refl _).drew; replace hb := hb.drew
    go_region_held3 (fun w' => Arr2 w' w.heap.size n s /\ Arr2 w' (w.heap.size + 1) m t) (first | with_reducible exact ⟨hA, hB⟩ | (simp (maxDischargeDepth := 20) [Arr2, go_sem, hA, hB]; first | done | omega))
     (first
      | (go_at_call 126; refine (Qdh _ _ gb ga hle.out _ hDb hDa).mono ?_; rintro e V4 ⟨gc, rfl, hgc, hDc, hb1⟩; replace hA := hA.keep hb1; replace hB := hB.keep hb1; replace hR := hR.keep hb1; replace hb := hb.trans hb1; clear hb1 hgc hDa hDb)
      | (go_at_call 124; refine (rdec12 _ _ gc hZ.out _ hDc).mono ?_; rintro e V5 ⟨rfl, hb1⟩; rw [HD.out]; replace hA := hA.keep hb1; replace hB := hB.keep hb1; replace hR := hR.keep hb1; replace hb := hb.trans hb1; clear hb1 hDc))
    all_goals
     go_wp2
     refine pR (by simp [results, Tryz.results84, go_sem, hR]; try rfl) rfl ⟨by (rw [← hv.out]) <;> rfl, ?_⟩
     exact Bel.y
  have hv0 := Qes h true ((unt n s).natAbs - (unt m t).natAbs) (by omega) (fun h0 => by symm; first | exact dT (by omega) | exact dF (by omega))
  obtain ⟨x1, x2, x3, hd⟩ := Qdg true ((unt n s).natAbs - (unt m t).natAbs) 6
  have hZ := Hd (show (unt n s).natAbs - (unt m t).natAbs <= 10 ^ 20 by omega)
  have HD := Hd hd
  have hv := Hd (hd.symm.trans hv0)
  have r1 := Hd (show decide ((unt n s).natAbs * 10 ^ 6 < (unt m t).natAbs * 10 ^ 6) = false by simp; omega)
  have hle := Hd (show (unt m t).natAbs <= (unt n s).natAbs by omega)
  clear q1
  clear hv0 hd h bu bv zu zv
  go_enter Tryz.func84, Tryz.ntmps84
  go_wp2_with fail
  refine Qac ((((Bel.refl w).alloc _).alloc _).alloc _) fun W hc hf hz hb => ?_
  have hA : Arr2 W w.heap.size n s := by simp [Arr2, hz, hc, hf, go_sem]
  have hB : Arr2 W (w.heap.size + 1) m t := by simp [Arr2, hz, hc, hf, go_sem]
  have hR : Sl2 W (w.heap.size + 1 + 1) 0 0 := by simp [Sl2, Arr2, Fr2, hz, hc, hf, go_sem]
  clear hc hf hz
  go_wp2_with (first
   | (go_at_call 39; with_reducible refine (c1.out _).mono ?_; rintro e W1 ⟨rfl, hb1⟩; rw [h1.out]; replace hA := hA.keep hb1; replace hB := hB.keep hb1; replace hR := hR.keep hb1; replace hb := hb.trans hb1; clear hb1)
   | (go_at_call 39; with_reducible refine (c2.out _).mono ?_; rintro e W2 ⟨rfl, hb1⟩; rw [h2.out]; replace hA := hA.keep hb1; replace hB := hB.keep hb1; replace hR := hR.keep hb1; replace hb := hb.trans hb1; clear hb1))
  replace hA := hA.keep (Bel.refl _).drew; replace hB := hB.keep (Bel.refl _).drew; replace hR := hR.keep (Bel.refl _).drew; replace hb := hb.drew
  go_region_held3 (fun w' => Arr2 w' w.heap.size n s /\ Arr2 w' (w.heap.size + 1) m t) (first | with_reducible exact ⟨hA, hB⟩ | (simp (maxDischargeDepth := 20) [Arr2, go_sem, hA, hB]; first | done | omega))
   (first
    | (go_at_call 94; have _u := hDa; refine (Qaf _ _ (by first | exact hs1.out | exact hs2.out) _).mono ?_; rintro e V2 ⟨gb, rfl, hgb, hDb, hb1⟩; replace hA := hA.keep hb1; replace hB := hB.keep hb1; replace hR := hR.keep hb1; replace hDa := hDa.keep hb1; replace hb := hb.trans hb1; clear hb1 hgb _u)
    | (go_at_call 94; refine (Qaf _ _ (by first | exact hs1.out | exact hs2.out) _).mono ?_; rintro e V1 ⟨ga, rfl, hga, hDa, hb1⟩; replace hA := hA.keep hb1; replace hB := hB.keep hb1; replace hR := hR.keep hb1; replace hb := hb.trans hb1; clear hb1 hga))
  go_wp2_with (go_at_call 93; refine (Qa2 ga gb _ _ HU.out HV.out _ hDa hDb).mono ?_; rintro e V3 ⟨rfl, hb1⟩; rw [r1.out]; replace hA := hA.keep hb1; replace hB := hB.keep hb1; replace hR := hR.keep hb1; replace hDa := hDa.keep hb1; replace hDb := hDb.keep hb1; replace hb := hb.trans hb1; clear hb1)
  all_goals
   replace hA := hA.keep (Bel.refl _).drew; replace hB := hB.keep (Bel.refl _).drew; replace hR := hR.keep (Bel.refl _).drew; replace hDa := hDa.keep (Bel.refl _).drew; replace hDb := hDb.keep (Bel.refl _).drew; replace hb := hb.drew
   go_region_held3 (fun w' => Arr2 w' w.heap.size n s /\ Arr2 w' (w.heap.size + 1) m t) (first | with_reducible exact ⟨hA, hB⟩ | (simp (maxDischargeDepth := 20) [Arr2, go_sem, hA, hB]; first | done | omega))
    (first
     | (go_at_call 126; refine (Qdh _ _ ga gb hle.out _ hDa hDb).mono ?_; rintro e V4 ⟨gc, rfl, hgc, hDc, hb1⟩; replace hA := hA.keep hb1; replace hB := hB.keep hb1; replace hR := hR.keep hb1; replace hb := hb.trans hb1; clear hb1 hgc hDa hDb)
     | (go_at_call 124; refine (rdec12 _ _ gc hZ.out _ hDc).mono ?_; rintro e V5 ⟨rfl, hb1⟩; rw [HD.out]; replace hA := hA.keep hb1; replace hB := hB.keep hb1; replace hR := hR.keep hb1; replace hb := hb.trans hb1; clear hb1 hDc))
   all_goals
    go_wp2
    refine pR (by simp [results, Tryz.results84, go_sem, hR]; try rfl) rfl ⟨by (rw [← hv.out]) <;> rfl, ?_⟩
    exact Bel.y
 by_cases hm : m < 0
 ·have hn' : 0 <= n := by omega
  have hnd : decide (n < 0) = false := by simp; omega
  by_cases q1 : (unt n s).natAbs < (unt m t).natAbs
  ·have hv0 := Qes h true ((unt m t).natAbs - (unt n s).natAbs) (by omega) (fun h0 => by symm; first | exact dT (by omega) | exact dF (by omega))
   obtain ⟨x1, x2, x3, hd⟩ := Qdg true ((unt m t).natAbs - (unt n s).natAbs) 6
   have hZ := Hd (show (unt m t).natAbs - (unt n s).natAbs <= 10 ^ 20 by omega)
   have HD := Hd hd
   have hv := Hd (hd.symm.trans hv0)
   have r1 := Hd (show decide ((unt n s).natAbs * 10 ^ 6 < (unt m t).natAbs * 10 ^ 6) = true by simp; omega)
   have hle := Hd (show (unt n s).natAbs <= (unt m t).natAbs by omega)
   clear q1
   clear hv0 hd h bu bv zu zv
   go_enter Tryz.func84, Tryz.ntmps84
   go_wp2_with fail
   refine Qac ((((Bel.refl w).alloc _).alloc _).alloc _) fun W hc hf hz hb => ?_
   have hA : Arr2 W w.heap.size n s := by simp [Arr2, hz, hc, hf, go_sem]
   have hB : Arr2 W (w.heap.size + 1) m t := by simp [Arr2, hz, hc, hf, go_sem]
   have hR : Sl2 W (w.heap.size + 1 + 1) 0 0 := by simp [Sl2, Arr2, Fr2, hz, hc, hf, go_sem]
   clear hc hf hz
   go_wp2_with (first
    | (go_at_call 39; with_reducible refine (c1.out _).mono ?_; rintro e W1 ⟨rfl, hb1⟩; rw [h1.out]; replace hA := hA.keep hb1; replace hB := hB.keep hb1; replace hR := hR.keep hb1; replace hb := hb.trans hb1; clear hb1)
    | (go_at_call 39; with_reducible refine (c2.out _).mono ?_; rintro e W2 ⟨rfl, hb1⟩; rw [h2.out]; replace hA := hA.keep hb1; replace hB := hB.keep hb1; replace hR := hR.keep hb1; replace hb := hb.trans hb1; clear hb1))
   replace hA := hA.keep (Bel.refl _).drew; replace hB := hB.keep (Bel.refl _).drew; replace hR := hR.keep (Bel.refl _).drew; replace hb := hb.drew
   go_region_held3 (fun w' => Arr2 w' w.heap.size n s /\ Arr2 w' (w.heap.size + 1) m t) (first | with_reducible exact ⟨hA, hB⟩ | (simp (maxDischargeDepth := 20) [Arr2, go_sem, hA, hB]; first | done | omega))
    (first
     | (go_at_call 94; have _u := hDa; refine (Qaf _ _ (by first | exact hs1.out | exact hs2.out) _).mono ?_; rintro e V2 ⟨gb, rfl, hgb, hDb, hb1⟩; replace hA := hA.keep hb1; replace hB := hB.keep hb1; replace hR := hR.keep hb1; replace hDa := hDa.keep hb1; replace hb := hb.trans hb1; clear hb1 hgb _u)
     | (go_at_call 94; refine (Qaf _ _ (by first | exact hs1.out | exact hs2.out) _).mono ?_; rintro e V1 ⟨ga, rfl, hga, hDa, hb1⟩; replace hA := hA.keep hb1; replace hB := hB.keep hb1; replace hR := hR.keep hb1; replace hb := hb.trans hb1; clear hb1 hga))
   go_wp2_with (go_at_call 93; refine (Qa2 ga gb _ _ HU.out HV.out _ hDa hDb).mono ?_; rintro e V3 ⟨rfl, hb1⟩; rw [r1.out]; replace hA := hA.keep hb1; replace hB := hB.keep hb1; replace hR := hR.keep hb1; replace hDa := hDa.keep hb1; replace hDb := hDb.keep hb1; replace hb := hb.trans hb1; clear hb1)
   all_goals
    replace hA := hA.keep (Bel.refl _).drew; replace hB := hB.keep (Bel.refl _).drew; replace hR := hR.keep (Bel.refl _).drew; replace hDa := hDa.keep (Bel.refl _).drew; replace hDb := hDb.keep (Bel.refl _).drew; replace hb := hb.drew
    go_region_held3 (fun w' => Arr2 w' w.heap.size n s /\ Arr2 w' (w.heap.size + 1) m t) (first | with_reducible exact ⟨hA, hB⟩ | (simp (maxDischargeDepth := 20) [Arr2, go_sem, hA, hB]; first | done | omega))
     (first
      | (go_at_call 126; refine (Qdh _ _ gb ga hle.out _ hDb hDa).mono ?_; rintro e V4 ⟨gc, rfl, hgc, hDc, hb1⟩; replace hA := hA.keep hb1; replace hB := hB.keep hb1; replace hR := hR.keep hb1; replace hb := hb.trans hb1; clear hb1 hgc hDa hDb)
      | (go_at_call 124; refine (rdec12 _ _ gc hZ.out _ hDc).mono ?_; rintro e V5 ⟨rfl, hb1⟩; rw [HD.out]; replace hA := hA.keep hb1; replace hB := hB.keep hb1; replace hR := hR.keep hb1; replace hb := hb.trans hb1; clear hb1 hDc))
    all_goals
     go_wp2
     refine pR (by simp [results, Tryz.results84, go_sem, hR]; try rfl) rfl ⟨by (rw [← hv.out]) <;> rfl, ?_⟩
     exact Bel.y
  have hv0 := Qes h false ((unt n s).natAbs - (unt m t).natAbs) (by omega) (fun h0 => by symm; first | exact dT (by omega) | exact dF (by omega))
  obtain ⟨x1, x2, x3, hd⟩ := Qdg false ((unt n s).natAbs - (unt m t).natAbs) 6
  have hZ := Hd (show (unt n s).natAbs - (unt m t).natAbs <= 10 ^ 20 by omega)
  have HD := Hd hd
  have hv := Hd (hd.symm.trans hv0)
  have r1 := Hd (show decide ((unt n s).natAbs * 10 ^ 6 < (unt m t).natAbs * 10 ^ 6) = false by simp; omega)
  have hle := Hd (show (unt m t).natAbs <= (unt n s).natAbs by omega)
  clear q1
  clear hv0 hd h bu bv zu zv
  go_enter Tryz.func84, Tryz.ntmps84
  go_wp2_with fail
  refine Qac ((((Bel.refl w).alloc _).alloc _).alloc _) fun W hc hf hz hb => ?_
  have hA : Arr2 W w.heap.size n s := by simp [Arr2, hz, hc, hf, go_sem]
  have hB : Arr2 W (w.heap.size + 1) m t := by simp [Arr2, hz, hc, hf, go_sem]
  have hR : Sl2 W (w.heap.size + 1 + 1) 0 0 := by simp [Sl2, Arr2, Fr2, hz, hc, hf, go_sem]
  clear hc hf hz
  go_wp2_with (first
   | (go_at_call 39; with_reducible refine (c1.out _).mono ?_; rintro e W1 ⟨rfl, hb1⟩; rw [h1.out]; replace hA := hA.keep hb1; replace hB := hB.keep hb1; replace hR := hR.keep hb1; replace hb := hb.trans hb1; clear hb1)
   | (go_at_call 39; with_reducible refine (c2.out _).mono ?_; rintro e W2 ⟨rfl, hb1⟩; rw [h2.out]; replace hA := hA.keep hb1; replace hB := hB.keep hb1; replace hR := hR.keep hb1; replace hb := hb.trans hb1; clear hb1))
  replace hA := hA.keep (Bel.refl _).drew; replace hB := hB.keep (Bel.refl _).drew; replace hR := hR.keep (Bel.refl _).drew; replace hb := hb.drew
  go_region_held3 (fun w' => Arr2 w' w.heap.size n s /\ Arr2 w' (w.heap.size + 1) m t) (first | with_reducible exact ⟨hA, hB⟩ | (simp (maxDischargeDepth := 20) [Arr2, go_sem, hA, hB]; first | done | omega))
   (first
    | (go_at_call 94; have _u := hDa; refine (Qaf _ _ (by first | exact hs1.out | exact hs2.out) _).mono ?_; rintro e V2 ⟨gb, rfl, hgb, hDb, hb1⟩; replace hA := hA.keep hb1; replace hB := hB.keep hb1; replace hR := hR.keep hb1; replace hDa := hDa.keep hb1; replace hb := hb.trans hb1; clear hb1 hgb _u)
    | (go_at_call 94; refine (Qaf _ _ (by first | exact hs1.out | exact hs2.out) _).mono ?_; rintro e V1 ⟨ga, rfl, hga, hDa, hb1⟩; replace hA := hA.keep hb1; replace hB := hB.keep hb1; replace hR := hR.keep hb1; replace hb := hb.trans hb1; clear hb1 hga))
  go_wp2_with (go_at_call 93; refine (Qa2 ga gb _ _ HU.out HV.out _ hDa hDb).mono ?_; rintro e V3 ⟨rfl, hb1⟩; rw [r1.out]; replace hA := hA.keep hb1; replace hB := hB.keep hb1; replace hR := hR.keep hb1; replace hDa := hDa.keep hb1; replace hDb := hDb.keep hb1; replace hb := hb.trans hb1; clear hb1)
  all_goals
   replace hA := hA.keep (Bel.refl _).drew; replace hB := hB.keep (Bel.refl _).drew; replace hR := hR.keep (Bel.refl _).drew; replace hDa := hDa.keep (Bel.refl _).drew; replace hDb := hDb.keep (Bel.refl _).drew; replace hb := hb.drew
   go_region_held3 (fun w' => Arr2 w' w.heap.size n s /\ Arr2 w' (w.heap.size + 1) m t) (first | with_reducible exact ⟨hA, hB⟩ | (simp (maxDischargeDepth := 20) [Arr2, go_sem, hA, hB]; first | done | omega))
    (first
     | (go_at_call 126; refine (Qdh _ _ ga gb hle.out _ hDa hDb).mono ?_; rintro e V4 ⟨gc, rfl, hgc, hDc, hb1⟩; replace hA := hA.keep hb1; replace hB := hB.keep hb1; replace hR := hR.keep hb1; replace hb := hb.trans hb1; clear hb1 hgc hDa hDb)
     | (go_at_call 124; refine (rdec12 _ _ gc hZ.out _ hDc).mono ?_; rintro e V5 ⟨rfl, hb1⟩; rw [HD.out]; replace hA := hA.keep hb1; replace hB := hB.keep hb1; replace hR := hR.keep hb1; replace hb := hb.trans hb1; clear hb1 hDc))
   all_goals
    go_wp2
    refine pR (by simp [results, Tryz.results84, go_sem, hR]; try rfl) rfl ⟨by (rw [← hv.out]) <;> rfl, ?_⟩
    exact Bel.y
 have hm' : 0 <= m := by omega
 have hmd : decide (m < 0) = false := by simp; omega
 have hn' : 0 <= n := by omega
 have hnd : decide (n < 0) = false := by simp; omega
 have hv0 := Qes h false ((unt n s).natAbs + (unt m t).natAbs) (by omega) (fun h0 => by symm; first | exact dT (by omega) | exact dF (by omega))
 obtain ⟨x1, x2, x3, hd⟩ := Qdg false ((unt n s).natAbs + (unt m t).natAbs) 6
 have hZ := Hd (show (unt n s).natAbs + (unt m t).natAbs <= 10 ^ 20 by omega)
 have HD := Hd hd
 have hv := Hd (hd.symm.trans hv0)
 clear hv0 hd h bu bv zu zv
 go_enter Tryz.func84, Tryz.ntmps84
 go_wp2_with fail
 refine Qac ((((Bel.refl w).alloc _).alloc _).alloc _) fun W hc hf hz hb => ?_
 have hA : Arr2 W w.heap.size n s := by simp [Arr2, hz, hc, hf, go_sem]
 have hB : Arr2 W (w.heap.size + 1) m t := by simp [Arr2, hz, hc, hf, go_sem]
 have hR : Sl2 W (w.heap.size + 1 + 1) 0 0 := by simp [Sl2, Arr2, Fr2, hz, hc, hf, go_sem]
 clear hc hf hz
 go_wp2_with (first
  | (go_at_call 39; with_reducible refine (c1.out _).mono ?_; rintro e W1 ⟨rfl, hb1⟩; rw [h1.out]; replace hA := hA.keep hb1; replace hB := hB.keep hb1; replace hR := hR.keep hb1; replace hb := hb.trans hb1; clear hb1)
  | (go_at_call 39; with_reducible refine (c2.out _).mono ?_; rintro e W2 ⟨rfl, hb1⟩; rw [h2.out]; replace hA := hA.keep hb1; replace hB := hB.keep hb1; replace hR := hR.keep hb1; replace hb := hb.trans hb1; clear hb1))
 replace hA := hA.keep (Bel.refl _).drew; replace hB := hB.keep (Bel.refl _).drew; replace hR := hR.keep (Bel.refl _).drew; replace hb := hb.drew
 go_region_held3 (fun w' => Arr2 w' w.heap.size n s /\ Arr2 w' (w.heap.size + 1) m t) (first | with_reducible exact ⟨hA, hB⟩ | (simp (maxDischargeDepth := 20) [Arr2, go_sem, hA, hB]; first | done | omega))
  (first
   | (go_at_call 94; have _u := hDa; refine (Qaf _ _ (by first | exact hs1.out | exact hs2.out) _).mono ?_; rintro e V2 ⟨gb, rfl, hgb, hDb, hb1⟩; replace hA := hA.keep hb1; replace hB := hB.keep hb1; replace hR := hR.keep hb1; replace hDa := hDa.keep hb1; replace hb := hb.trans hb1; clear hb1 hgb _u)
   | (go_at_call 94; refine (Qaf _ _ (by first | exact hs1.out | exact hs2.out) _).mono ?_; rintro e V1 ⟨ga, rfl, hga, hDa, hb1⟩; replace hA := hA.keep hb1; replace hB := hB.keep hb1; replace hR := hR.keep hb1; replace hb := hb.trans hb1; clear hb1 hga))
 go_wp2
 replace hA := hA.keep (Bel.refl _).drew; replace hB := hB.keep (Bel.refl _).drew; replace hR := hR.keep (Bel.refl _).drew; replace hDa := hDa.keep (Bel.refl _).drew; replace hDb := hDb.keep (Bel.refl _).drew; replace hb := hb.drew
 go_region_held3 (fun w' => Arr2 w' w.heap.size n s /\ Arr2 w' (w.heap.size + 1) m t) (first | with_reducible exact ⟨hA, hB⟩ | (simp (maxDischargeDepth := 20) [Arr2, go_sem, hA, hB]; first | done | omega))
  (first
   | (go_at_call 125; refine (Qig _ _ ga gb _ hDa hDb).mono ?_; rintro e V4 ⟨gc, rfl, hgc, hDc, hb1⟩; replace hA := hA.keep hb1; replace hB := hB.keep hb1; replace hR := hR.keep hb1; replace hb := hb.trans hb1; clear hb1 hgc hDa hDb)
   | (go_at_call 124; refine (rdec12 _ _ gc hZ.out _ hDc).mono ?_; rintro e V5 ⟨rfl, hb1⟩; rw [HD.out]; replace hA := hA.keep hb1; replace hB := hB.keep hb1; replace hR := hR.keep hb1; replace hb := hb.trans hb1; clear hb1 hDc))
 all_goals
  go_wp2
  refine pR (by simp [results, Tryz.results84, go_sem, hR]; try rfl) rfl ⟨by (rw [← hv.out]) <;> rfl, ?_⟩
  exact Bel.y
theorem Qk5 (n s m t : Int) (w : World) : Calls Tryz.prog 84 #[decA n s, decA m t] w fun e w' => e = .returned (addV n s m t) /\ Bel w w' := by
 by_cases h : SndD n s /\ SndD m t
 ·exact Qpk n s m t h w
 exact Qr6 n s m t h w
end
end Go.Proofs.YtjckpkamhdbcnaaGreatDoor
