import Derived.Test.YtinbhhcppiamjaaGrj
namespace Go.Proofs.Ytinbhhcppiamjaa
set_option linter.unusedSimpArgs false
set_option linter.unusedVariables false
open Go.RowKit Go.Lib Go.Maps

/-! Above: the program's answer. -/
def AbOut (l : List ByteArray) (ns : List (List ByteArray)) (m : Int) (w w' : World) (e : Ending) : Prop :=
  ∃ A c, e = .returned (.tuple #[.slice A (aboveOut l ns m).1.length c, .int .i64 (aboveOut l ns m).2]) ∧ Ints w' A (natsI (aboveOut l ns m).1) ∧ Bel w w'
theorem ab_bad {l : List ByteArray} {ns : List (List ByteArray)} {m : Int} (h : (chk l ns).2 ≠ 0) : aboveOut l ns m = ([], (chk l ns).2) := by
  unfold aboveOut; rw [if_pos h]
theorem ab_arg {l : List ByteArray} {ns : List (List ByteArray)} {m : Int} (h : (chk l ns).2 = 0) (hm : m < 0 ∨ (l.length : Int) ≤ m) : aboveOut l ns m = ([], 1) := by
  unfold aboveOut; rw [if_neg (by omega), if_pos hm]
theorem ab_ok {l : List ByteArray} {ns : List (List ByteArray)} {m : Nat} (h : (chk l ns).2 = 0) (hm : m < l.length) : aboveOut l ns (m : Int) = (above (gr l ns) l.length m, 0) := by
  unfold aboveOut; rw [if_neg (by omega), if_neg (by omega)]; rfl
theorem snoc_cases (l : List Nat) : l = [] ∨ ∃ m u, l = m ++ [u] := by
  rcases List.eq_nil_or_concat l with h | ⟨m, u, h⟩
  · exact .inl h
  · exact .inr ⟨m, u, by rw [h, List.concat_eq_append]⟩
theorem cnt_none (N : Nat) : cnt N (fun _ => false) = 0 := by
  unfold cnt
  rw [List.filter_eq_nil_iff.2 (fun _ _ => by simp)]
  rfl
theorem own_cap {w : World} {B n c : Nat} {e : TypeId} {A : Option Addr} {xs : List Value} (h : w.ownsRow B e 1 (.slice A n c) n xs) (hn : 0 < n) : n ≤ c ∧ c ≤ maxLen := by
  rcases h.2 with ⟨h1, h2⟩ | ⟨g, cap, cur, hv, hB, hh, hn, hm, hs, ht⟩
  · omega
  · cases hv
    exact ⟨hn, hm⟩
theorem own_pop {w : World} {B k c : Nat} {e : TypeId} {A : Option Addr} {xs : List Value} (h : w.ownsRow B e 1 (.slice A (k + 1) c) (k + 1) xs) : w.ownsRow B e 1 (.slice A k c) k (xs.take k) := by
  have hl := own_len h
  rcases h.2 with ⟨h1, h2⟩ | ⟨g, cap, cur, hv, hB, hh, hn, hm, hs, ht⟩
  · cases h2
  · cases hv
    refine ⟨by rw [List.length_take]; omega, .inr ⟨g, c, cur, rfl, hB, hh, by omega, hm, hs, ?_⟩⟩
    rw [← ht, List.take_take]
    congr 1
    omega
/-- What is known on the way up, while t of what u needs has been looked at. -/
structure Up (g : Nat → List Nat) (N m : Nat) (p : Nat → Bool) (wl : List Nat) (us : List Nat) : Prop where
  ws : ∀ x ∈ wl, x < N ∧ (x = m ∨ p x = true)
  sound : ∀ x, x < N → p x = true → Reach g m x
  closed : ∀ y, y < N → (y = m ∨ p y = true) → y ∈ wl ∨ y ∈ us ∨ ∀ k ∈ g y, p k = true
theorem Up.start (g : Nat → List Nat) {N m : Nat} (hm : m < N) : Up g N m (fun _ => false) [m] [] :=
  ⟨fun x hx => by simp at hx; exact ⟨by omega, .inl hx⟩, fun x _ h => (by cases h), fun y _ h => by
    rcases h with h | h
    · exact .inl (by simp [h])
    · cases h⟩
theorem Up.pop {g : Nat → List Nat} {N m u : Nat} {p : Nat → Bool} {ws : List Nat} (h : Up g N m p (ws ++ [u]) []) : Up g N m p ws [u] :=
  ⟨fun x hx => h.ws x (List.mem_append.2 (.inl hx)), h.sound, fun y hy hp => by
    rcases h.closed y hy hp with h1 | h1 | h1
    · rcases List.mem_append.1 h1 with h2 | h2
      · exact .inl h2
      · exact .inr (.inl h2)
    · cases h1
    · exact .inr (.inr h1)⟩
theorem Up.push {g : Nat → List Nat} {N m u x : Nat} {p : Nat → Bool} {ws : List Nat} (h : Up g N m p ws [u]) (hx : x < N) (hr : Reach g m x) : Up g N m (fun i => if i = x then true else p i) (ws ++ [x]) [u] := by
  refine ⟨fun y hy => ?_, fun y hy hp => ?_, fun y hy hp => ?_⟩
  · rcases List.mem_append.1 hy with h1 | h1
    · refine ⟨(h.ws y h1).1, ?_⟩
      rcases (h.ws y h1).2 with h2 | h2
      · exact .inl h2
      · exact .inr (by by_cases e : y = x <;> simp [e, h2])
    · simp at h1
      exact ⟨by omega, .inr (by rw [if_pos h1])⟩
  · by_cases e : y = x
    · rw [e]; exact hr
    · rw [if_neg e] at hp; exact h.sound y hy hp
  · have mono : ∀ k, p k = true → (if k = x then true else p k) = true := fun k hk => by by_cases e : k = x <;> simp [e, hk]
    by_cases e : y = x
    · exact .inl (List.mem_append.2 (.inr (by simp [e])))
    · rw [if_neg e] at hp
      rcases h.closed y hy hp with h1 | h1 | h1
      · exact .inl (List.mem_append.2 (.inl h1))
      · exact .inr (.inl h1)
      · exact .inr (.inr fun k hk => mono k (h1 k hk))
theorem Up.done {g : Nat → List Nat} {N m u : Nat} {p : Nat → Bool} {ws : List Nat} (h : Up g N m p ws [u]) (hu : ∀ k ∈ g u, p k = true) : Up g N m p ws [] :=
  ⟨h.ws, h.sound, fun y hy hp => by
    rcases h.closed y hy hp with h1 | h1 | h1
    · exact .inl h1
    · simp at h1; exact .inr (.inr (by rw [h1]; exact hu))
    · exact .inr (.inr h1)⟩
theorem Up.reach {g : Nat → List Nat} {N m u k : Nat} {p : Nat → Bool} {ws : List Nat} (h : Up g N m p (ws ++ [u]) []) (hk : k ∈ g u) : Reach g m k := by
  obtain ⟨h1, h2⟩ := h.ws u (List.mem_append.2 (.inr (by simp)))
  rcases h2 with rfl | h2
  · exact .one hk
  · exact (h.sound u h1 h2).more hk
theorem Up.ends {g : Nat → List Nat} {N m : Nat} {p : Nat → Bool} (h : Up g N m p [] []) (hm : m < N) (hg : ∀ i, ∀ k ∈ g i, k < N) : above g N m = (List.range N).filter p :=
  above_eq h.sound (by
    rcases h.closed m hm (.inl rfl) with h1 | h1 | h1
    · cases h1
    · cases h1
    · exact h1) (fun i hi hp => by
    rcases h.closed i hi (.inr hp) with h1 | h1 | h1
    · cases h1
    · cases h1
    · exact h1) hg
/-- What the map holds: those that have been found. -/
def Found (M : Int → Option Int) (N : Nat) (p : Nat → Bool) : Prop := ∀ x : Int, (M x).isSome = true ↔ ∃ k : Nat, x = k ∧ k < N ∧ p k = true
theorem Found.nil (N : Nat) : Found (fun _ => none) N (fun _ => false) := fun x => by
  constructor
  · intro h; cases h
  · rintro ⟨_, _, _, h⟩; cases h
theorem Found.put {M : Int → Option Int} {N x : Nat} {p : Nat → Bool} (h : Found M N p) (hx : x < N) (c : Int) : Found (mput M (x : Int) c) N (fun i => if i = x then true else p i) := fun y => by
  unfold mput
  by_cases e : y = (x : Int)
  · rw [if_pos e]
    exact ⟨fun _ => ⟨x, e, hx, by simp⟩, fun _ => rfl⟩
  · rw [if_neg e, h y]
    constructor
    · rintro ⟨k, rfl, h1, h2⟩
      exact ⟨k, rfl, h1, by by_cases e2 : k = x <;> simp [e2, h2]⟩
    · rintro ⟨k, rfl, h1, h2⟩
      have h3 : (if k = x then true else p k) = true := h2
      rw [if_neg (by omega)] at h3
      exact ⟨k, rfl, h1, h3⟩
theorem Found.at {M : Int → Option Int} {N x : Nat} {p : Nat → Bool} (h : Found M N p) (hx : x < N) : (M (x : Int)).isSome = p x := by
  rw [Bool.eq_iff_iff, h]
  constructor
  · rintro ⟨k, e, _, h2⟩
    obtain rfl : x = k := by omega
    exact h2
  · intro h2
    exact ⟨x, rfl, hx, h2⟩
end Go.Proofs.Ytinbhhcppiamjaa
