import Derived.Test.YtinbhhcppiamjaaGrg
namespace Go.Proofs.Ytinbhhcppiamjaa
set_option linter.unusedSimpArgs false
set_option linter.unusedVariables false
open Go.RowKit Go.Lib Go.Maps

/-! The operations on maps of the call's own: delete, len, a look without ok. -/
section
variable {K : Type} {k : K → Lit} {M : K → Option Int} {P : Program} {kt vt t : TypeId} {w : World} {b n s : Nat} {ops : Array Oper} {rest : List Oper} {o : Oper} {a : Act} {Q : Exit → Act → World → Prop}
theorem wpList_delM (hg : o.guard = none) (m x : Operand) (hop : o.op = Op.call { callee := .builtin .delete, args := #[m, x], argTypes := #[t, kt] }) {key : Value} (hm : a.eval m = .map (some b)) (hx : a.eval x = key) {R : World → Prop}
    (hrun : ∃ w', (Builtin.delete_ #[t, kt] o.type #[.map (some b), key]).run P w = .ok (.tuple #[]) w' ∧ R w') (hK : ∀ w', R w' → wpList P ops Q rest (a.put o.dst (.tuple #[])) w') : wpList P ops Q (o :: rest) a w := by
  obtain ⟨w', hr, h1⟩ := hrun
  refine wpList_plain hg fun K' hK' => ?_
  unfold Oper.wp
  simp [execOp, hop, resolve, invoke, builtin, hm, hx, hr, Result.andThen]
  exact hK' _ _ (hK w' h1)
theorem wpList_lenM (hg : o.guard = none) (m : Operand) (hop : o.op = Op.call { callee := .builtin .len, args := #[m], argTypes := #[t] }) (ht : P.underlying t = some (.map kt vt)) (hm : a.eval m = .map (some b)) (h : HoldsM P kt vt k w b n M s)
    (hK : wpList P ops Q rest (a.put o.dst (.int .i64 s)) w) : wpList P ops Q (o :: rest) a w := by
  refine wpList_plain hg fun K' hK' => ?_
  unfold Oper.wp
  simp [execOp, hop, resolve, invoke, builtin, hm, h.len ht o.type, Result.andThen]
  exact hK' _ _ hK
theorem wpList_getM (hg : o.guard = none) (m x : Operand) (hop : o.op = Op.lookup t m x false) {key v : Value} (hm : a.eval m = .map (some b)) (hx : a.eval x = key)
    (hrun : (Instr.lookup t (.map (some b)) key false).run P w = .ok v w) (hK : wpList P ops Q rest (a.put o.dst v) w) : wpList P ops Q (o :: rest) a w := by
  refine wpList_plain hg fun K' hK' => ?_
  unfold Oper.wp
  simp [execOp, hop, hm, hx, hrun, Result.andThen]
  exact hK' _ _ hK
end
theorem res_bad (d : Sl) (A : Option Addr) (c : Nat) (ls : List Sl) (w : World) (hd : SlOk w d) (hn : Nds w A ls) (hz0 : d.l.length ≤ 60) (hz : ls.length ≤ 60) (hz2 : ∀ d ∈ ls, d.l.length ≤ 60) (h : (chk d.l (nsOf ls)).2 ≠ 0) :
    Calls Try.prog 14 #[d.val, .slice A ls.length c] w fun e w' => e = .returned (.tuple #[.slice none 0 0, .int .i64 (chk d.l (nsOf ls)).1, .int .i64 (chk d.l (nsOf ls)).2]) ∧ Bel w w' := by
  refine (resolved_any d A c ls w hd hn hz0 hz hz2).mono fun e w' ⟨v, he, hb, h1, _⟩ => ?_
  rw [h1 h] at he
  exact ⟨he, hb⟩
theorem res_good (d : Sl) (A : Option Addr) (c : Nat) (ls : List Sl) (w : World) (hd : SlOk w d) (hn : Nds w A ls) (hz0 : d.l.length ≤ 60) (hz : ls.length ≤ 60) (hz2 : ∀ d ∈ ls, d.l.length ≤ 60) (h : (chk d.l (nsOf ls)).2 = 0) :
    Calls Try.prog 14 #[d.val, .slice A ls.length c] w fun e w' => ∃ b f, e = .returned (.tuple #[.slice (some ⟨b, 0, none⟩) d.l.length d.l.length, .int .i64 0, .int .i64 0]) ∧ w.heap.size ≤ b ∧ Grp w' b d.l.length 3 f (fun i => natsI (gr d.l (nsOf ls) i)) ∧ Bel w w' := by
  refine (resolved_any d A c ls w hd hn hz0 hz hz2).mono fun e w' ⟨v, he, hb, _, h1⟩ => ?_
  obtain ⟨b, f, rfl, h2, h3⟩ := h1 h
  rw [h, chk_zero1 h] at he
  exact ⟨b, f, he, h2, h3, hb⟩
/-- What Order gives. -/
def OrdOut (l : List ByteArray) (ns : List (List ByteArray)) (w w' : World) (e : Ending) : Prop :=
  ∃ A c, e = .returned (.tuple #[.slice A (ordOut l ns).1.length c, .int .i64 (ordOut l ns).2.1, .int .i64 (ordOut l ns).2.2]) ∧ Ints w' A (natsI (ordOut l ns).1) ∧ Bel w w'
theorem ints_nil {w : World} {A : Option Addr} : Ints w A [] := Row.nil
theorem ord_bad {l : List ByteArray} {ns : List (List ByteArray)} (h : (chk l ns).2 ≠ 0) : ordOut l ns = ([], (chk l ns).1, (chk l ns).2) := by
  unfold ordOut; rw [if_pos h]
theorem ord_full {l : List ByteArray} {ns : List (List ByteArray)} (h : (chk l ns).2 = 0) (hn : ∀ j, j < l.length → nxt (gr l ns) l.length (ord (gr l ns) l.length j) ≠ none) : ordOut l ns = (ord (gr l ns) l.length l.length, 0, 0) := by
  unfold ordOut; rw [if_neg (by omega), if_pos (ord_len hn)]
theorem ord_stuck {l : List ByteArray} {ns : List (List ByteArray)} {k : Nat} (h : (chk l ns).2 = 0) (hk : k < l.length) (hn : nxt (gr l ns) l.length (ord (gr l ns) l.length k) = none) : ordOut l ns = ([], (fst0 l.length (ord (gr l ns) l.length k) : Int), 13) := by
  have e := ord_end_none (by omega) hn
  have h3 := (ord_ok (g := gr l ns) (N := l.length) k).2.2
  unfold ordOut; rw [if_neg (by omega), if_neg (by rw [e]; omega), e]
/-- The least that waits for none is next. -/
theorem best_next {g : Nat → List Nat} {n : Nat} {os : List Nat} {best : Int} {found : Bool} (h : BestOf (leftM g n os) (fun v => v == 0) (fun _ => false) best found) :
    (found = false ∧ nxt g n os = none) ∨ ∃ i : Nat, found = true ∧ best = i ∧ i < n ∧ i ∉ os ∧ nxt g n os = some i := by
  have rdy : ∀ i, i < n → ready g os i = true → leftM g n os (i : Int) = some 0 := fun i hi hr => by
    have h2 := ready_iff.1 hr
    rw [leftM_at hi h2.1, waits_zero.2 h2.2]
    rfl
  rcases h with ⟨h1, _, h2⟩ | ⟨h1, ⟨c, hc, hp⟩, h3⟩
  · refine .inl ⟨h1, find_no.2 fun j hj => ?_⟩
    cases hr : ready g os j with
    | false => rfl
    | true => have := h2 _ _ (rdy j hj hr) rfl; simp at this
  · obtain ⟨i, rfl, hi, ho, rfl⟩ := leftM_some hc
    refine .inr ⟨i, h1, rfl, hi, ho, find_least hi (ready_iff.2 ⟨ho, waits_zero.1 (by simpa using hp)⟩) fun j hj => ?_⟩
    cases hr : ready g os j with
    | false => rfl
    | true =>
      have := h3 _ _ (rdy j (by omega) hr) rfl (by simp)
      omega
/-- The least of all is the first that does not stand. -/
theorem best_first {g : Nat → List Nat} {n : Nat} {os : List Nat} {best : Int} {found : Bool} (h : BestOf (leftM g n os) (fun _ => true) (fun _ => false) best found) (hex : ∃ i, i < n ∧ i ∉ os) : best = (fst0 n os : Int) ∧ found = true := by
  obtain ⟨f1, f2, f3⟩ := fst_lt hex
  rcases h with ⟨h1, _, h2⟩ | ⟨h1, ⟨c, hc, hp⟩, h3⟩
  · have := h2 _ _ (leftM_at (g := g) f1 f2) rfl
    cases this
  · obtain ⟨i, rfl, hi, ho, _⟩ := leftM_some hc
    have a := h3 _ _ (leftM_at (g := g) f1 f2) rfl rfl
    refine ⟨?_, h1⟩
    rcases Nat.lt_or_ge i (fst0 n os) with hlt | hge
    · exact absurd (f3 i hlt) ho
    · omega
theorem waits_le {l : List ByteArray} {ns : List (List ByteArray)} (os : List Nat) (i : Nat) : waits (gr l ns) os i ≤ l.length := by
  unfold waits
  have h1 := List.length_filter_le (fun k => !os.contains k) (gr l ns i)
  have h2 := nodup_le (N := l.length) (gr_nodup l ns i) (gr_lt i)
  omega
theorem leftI_none (g : Nat → List Nat) (k : Nat) : leftI g k (k : Int) = none := by
  unfold leftI; rw [if_neg (by omega)]
theorem user_out {g : Nat → List Nat} {n k i u : Nat} (h : nxt g n (ord g n k) = some i) (hu : u ∈ users g n i) : u ∉ ord g n k ++ [i] := by
  obtain ⟨_, ho, hg⟩ := nxt_some h
  have hi := (users_lt hu).2
  intro hc
  rcases List.mem_append.1 hc with h1 | h1
  · exact ho ((ord_closed k u h1).1 i hi)
  · simp only [List.mem_singleton] at h1
    subst h1
    exact ho (hg _ hi)
theorem leftM_in {g : Nat → List Nat} {n : Nat} {os : List Nat} {i : Nat} (hi : i < n) (ho : i ∉ os) : (leftM g n os (i : Int)).isSome = true := by
  rw [leftM_at hi ho]; rfl
/-- The rows of users, while t of what the k-th needs have been told. -/
def uset (g : Nat → List Nat) (k t : Nat) : Nat → List Int := fun j => natsI (users g k j ++ if ((g k).take t).contains j then [k] else [])
theorem uset_0 (g : Nat → List Nat) (k : Nat) : uset g k 0 = fun j => natsI (users g k j) := by
  funext j; unfold uset; simp
theorem uset_end (g : Nat → List Nat) (k : Nat) : uset g k (g k).length = fun j => natsI (users g (k + 1) j) := by
  funext j; unfold uset; rw [List.take_length, users_succ]
theorem uset_succ {g : Nat → List Nat} {k t u : Nat} (hu : (g k)[t]? = some u) (hn : (g k).Nodup) : uset g k t u = natsI (users g k u) ∧ vset (uset g k t) u (natsI (users g k u) ++ [(k : Int)]) = uset g k (t + 1) := by
  have hnt : ((g k).take t).contains u = false := by
    rw [Bool.eq_false_iff]
    intro hc
    simp only [List.contains_iff_mem] at hc
    obtain ⟨j, hj⟩ := List.getElem?_of_mem hc
    have hjt : j < t := by
      have := (List.getElem?_eq_some_iff.1 hj).1
      simp at this
      omega
    rw [List.getElem?_take_of_lt hjt] at hj
    obtain ⟨a1, a2⟩ := List.getElem?_eq_some_iff.1 hj
    obtain ⟨b1, b2⟩ := List.getElem?_eq_some_iff.1 hu
    have h3 := List.pairwise_iff_getElem.1 (List.nodup_iff_pairwise_ne.1 hn) j t a1 b1 hjt
    exact h3 (a2.trans b2.symm)
  have htk : (g k).take (t + 1) = (g k).take t ++ [u] := by rw [List.take_add_one, hu]; rfl
  constructor
  · unfold uset; rw [hnt]; simp
  · funext j
    unfold uset vset
    rw [htk]
    by_cases e : j = u
    · subst e
      rw [if_pos rfl]
      simp [natsI]
    · rw [if_neg e]
      have : ((g k).take t ++ [u]).contains j = ((g k).take t).contains j := by
        rw [Bool.eq_iff_iff]
        simp [e]
      rw [this]
end Go.Proofs.Ytinbhhcppiamjaa
