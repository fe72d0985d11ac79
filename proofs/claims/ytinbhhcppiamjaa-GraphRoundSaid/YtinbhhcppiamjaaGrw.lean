import Derived.Test.YtinbhhcppiamjaaGrv
namespace Go.Proofs.Ytinbhhcppiamjaa
set_option linter.unusedSimpArgs false
set_option linter.unusedVariables false
open Go.RowKit Go.Lib Go.Maps

/-! The law GraphRound. -/
/-- Is one of the first k above itself? -/
noncomputable def rnd (g : Nat → List Nat) (N k : Nat) : Bool := (List.range k).any fun j => (above g N j).contains j
theorem rnd_0 (g : Nat → List Nat) (N : Nat) : rnd g N 0 = false := by simp [rnd]
theorem rnd_succ (g : Nat → List Nat) (N k : Nat) : rnd g N (k + 1) = (rnd g N k || (above g N k).contains k) := by
  unfold rnd; rw [List.range_succ, List.any_append]; simp
theorem rnd_end (g : Nat → List Nat) (N : Nat) : rnd g N N = true ↔ ∃ i, i < N ∧ Reach g i i := by
  unfold rnd
  rw [List.any_eq_true]
  constructor
  · rintro ⟨i, hi, h⟩
    simp only [List.contains_iff_mem] at h
    exact ⟨i, List.mem_range.1 hi, (mem_above.1 h).2⟩
  · rintro ⟨i, hi, h⟩
    exact ⟨i, List.mem_range.2 hi, by simp only [List.contains_iff_mem]; exact mem_above.2 ⟨hi, h⟩⟩
theorem or_t {R u : Bool} (q : Bool) (h : true = (R || u)) : true = (R || (u || q)) := by cases R <;> cases u <;> cases q <;> first | rfl | cases h
theorem or_f {R u : Bool} (h : false = (R || u)) : false = (R || (u || false)) := by cases R <;> cases u <;> first | rfl | cases h
theorem cont_succ {L : List Nat} {t y k : Nat} (h : L[t]? = some y) : (L.take (t + 1)).contains k = ((L.take t).contains k || ((y : Int) == (k : Int))) := by
  rw [List.take_add_one, h, Bool.eq_iff_iff]
  simp
  constructor
  · rintro (h | h)
    · exact .inl h
    · exact .inr (by omega)
  · rintro (h | h)
    · exact .inl h
    · exact .inr (by omega)
theorem ord3_cases (l : List ByteArray) (ns : List (List ByteArray)) :
    ((ordOut l ns).2.2 ≠ 0 ∧ (ordOut l ns).2.2 ≠ 13 ∧ (ordOut l ns).1 = []) ∨
    ((chk l ns).2 = 0 ∧ (ordOut l ns).2 = (0, 0) ∧ rnd (gr l ns) l.length l.length = false ∧ (ordOut l ns).1.length ≤ l.length) ∨
    ((chk l ns).2 = 0 ∧ (∃ z : Nat, z < l.length ∧ (ordOut l ns).2 = ((z : Int), 13)) ∧ rnd (gr l ns) l.length l.length = true ∧ (ordOut l ns).1.length ≤ l.length) := by
  have hle := ordOut_len l ns
  have hr := round_iff (g := gr l ns) (N := l.length) gr_lt
  by_cases h : (chk l ns).2 = 0
  · obtain ⟨o1, o2, o3⟩ := ord_ok (g := gr l ns) (N := l.length) l.length
    by_cases h2 : (ord (gr l ns) l.length l.length).length = l.length
    · refine .inr (.inl ⟨h, ?_, ?_, hle⟩)
      · unfold ordOut; rw [if_neg (by omega), if_pos h2]
      · rw [Bool.eq_false_iff]
        intro hh
        have := hr.2 ((rnd_end _ _).1 hh)
        omega
    · refine .inr (.inr ⟨h, ⟨fst0 l.length (ord (gr l ns) l.length l.length), (fst_lt (miss o1 o2 (by omega))).1, ?_⟩, (rnd_end _ _).2 (hr.1 (by omega)), hle⟩)
      unfold ordOut; rw [if_neg (by omega), if_neg h2]
  · refine .inl ⟨?_, ?_, ?_⟩
    · unfold ordOut; rw [if_pos h]; exact h
    · unfold ordOut; rw [if_pos h]
      rcases chk_code l ns with e | e | e | e
      · exact absurd e h
      all_goals (simp only; omega)
    · unfold ordOut; rw [if_pos h]
set_option maxRecDepth 100000 in
set_option maxHeartbeats 4000000 in
theorem law_Round (d : Sl) (A : Option Addr) (c : Nat) (ls : List Sl) (w : World) (hd : SlOk w d) (hn : Nds w A ls) (hz : ls.length ≤ 9223372036854775807) :
    Calls Try.prog 6 #[d.val, .slice A ls.length c] w fun e w' => e = .returned (.bool true) ∧ Bel w w' := by
  have HS := Lib.hid (small_any d A c ls w hd hn hz)
  have HA := Lib.hid fun W => awake_any W
  by_cases hsm : d.l.length ≤ 60 ∧ ls.length ≤ 60 ∧ ∀ d ∈ ls, d.l.length ≤ 60
  · rw [smallB_iff.2 hsm] at HS
    obtain ⟨s1, s2, s3⟩ := hsm
    have H1 := Lib.hid (order_any d A c ls w hd hn s1 s2 s3)
    unfold OrdOut at H1
    rcases ord3_cases d.l (nsOf ls) with ⟨hq, hq2, hL⟩ | ⟨hc, hL, hrd, hle⟩ | ⟨hc, ⟨z, hzl, hL⟩, hrd, hle⟩
    · rw [hL] at H1
      generalize (ordOut d.l (nsOf ls)).2.1 = z at H1
      generalize (ordOut d.l (nsOf ls)).2.2 = q at H1 hq hq2
      have e1 : (q != 0) = true := by simpa using hq
      have e2 : (q != 13) = true := by simpa using hq2
      clear s3 hd hn hL hq hq2
      simp only [Sl.val, List.length_nil] at HS H1 ⊢
      go_enter Try.func6, Try.ntmps6
      go_wp2_with (first
        | (go_at_call 7; refine HS.out.mono ?_; rintro e w0 ⟨rfl, h1⟩; obtain rfl : w = w0 := h1.symm)
        | (go_at_call 9; refine H1.out.mono ?_; rintro e w1 ⟨A1, c1, rfl, hi1, hb1⟩; have tok1 : True := trivial)
        | (go_at_call 8; have _t := tok1; clear tok1; refine (HA.out _).mono ?_; rintro e w3 ⟨rfl, hb3⟩)
        | (go_at_call 8; refine (HA.out _).mono ?_; rintro e w4 ⟨rfl, hb4⟩)
        | go_in)
      go_ret
      exact ⟨rfl, (hb1.trans hb3).trans hb4⟩
    · rw [hL] at H1
      have HAb := Lib.hid fun (k : Nat) W (hW : Bel w W) (hk : k < d.l.length) => above_any d A c ls (k : Int) W (hd.keep hW) (hn.keep hW) s1 s2 s3 (in64n (by omega))
      have HAo := Lib.hid fun (k : Nat) (hk : k < d.l.length) => ab_ok (ns := nsOf ls) hc hk
      have HAl := Lib.hid fun k => show (above (gr d.l (nsOf ls)) d.l.length k).length ≤ d.l.length from by
        unfold above
        have := List.length_filter_le (fun i => @decide (Reach (gr d.l (nsOf ls)) k i) (Classical.propDecidable _)) (List.range d.l.length)
        simpa using this
      have HRd := Lib.hid hrd
      obtain ⟨A0, c0, l⟩ := d
      simp only at s1 H1 HAb HAo HAl HRd
      simp only [Sl.val] at HS H1 HAb ⊢
      have hli : (l.length : Int) ≤ 60 := by omega
      unfold AbOut at HAb
      generalize gr l (nsOf ls) = g at HAo HAl HRd
      generalize (ordOut l (nsOf ls)).1 = L at H1
      clear s3 hd hn hL hc hrd hle
      go_enter Try.func6, Try.ntmps6
      go_wp2_with (first
        | (go_at_call 7; refine HS.out.mono ?_; rintro e w0 ⟨rfl, h1⟩; obtain rfl : w = w0 := h1.symm)
        | (go_at_call 9; refine H1.out.mono ?_; rintro e w1 ⟨A1, c1, rfl, hi1, hb1⟩)
        | (go_at_call 8; refine (HA.out _).mono ?_; rintro e w3 ⟨rfl, hb3⟩)
        | go_in)
      have hb0 := hb1.trans hb3
      clear hb1 hb3 hi1
      go_loopg [8, 9] l.length (fun gg rd i wr => ∃ (k : Nat), rd = .bool (rnd g l.length k) ∧ i = .int .i64 k ∧ k ≤ l.length ∧ Hid (gg = l.length - k) ∧ Bel w wr)
      case atStart => exact ⟨0, by rw [rnd_0], rfl, Nat.zero_le _, rfl, hb0⟩
      case round =>
        clear hb0
        clear w3
        obtain ⟨k, rfl, rfl, hk, hg1, hb⟩ := hrel
        by_cases hlt : k < l.length
        · have HC := HAb.out k wr hb hlt
          rw [HAo.out k hlt] at HC
          have HSu := Lib.hid (rnd_succ g l.length k)
          have hal := HAl.out k
          generalize above g l.length k = V at HC HSu hal
          have HCC := Lib.hid HC
          have i1 : (k : Int) < l.length := by omega
          have i2 : (0 : Int) ≤ (k : Int) := by omega
          have i3 : (V.length : Int) ≤ 60 := by omega
          clear HC
          go_wp2_with (first
            | (go_at_call 12; refine HCC.out.mono ?_; rintro e w5 ⟨A5, c5, rfl, hi5, hb5⟩)
            | go_in)
          generalize rnd g l.length k = R at HSu
          go_loopg [8, 12] V.length (fun gg rd i wr => ∃ (t : Nat) (acc : Bool), rd = .bool acc ∧ Hid (acc = (R || (V.take t).contains k)) ∧ i = .int .i64 t ∧ t ≤ V.length ∧ Hid (gg = V.length - t) ∧ w5 = wr)
          case atStart => exact ⟨0, R, rfl, by show _ = _; simp, rfl, Nat.zero_le _, rfl, rfl⟩
          case round =>
            obtain ⟨t, acc, rfl, hacc, rfl, ht, hgt, rfl⟩ := hrel
            by_cases hltt : t < V.length
            · obtain ⟨b8, off8, rfl, hb8, hc8⟩ := hi5 (by simp [nums, natsI]; omega)
              obtain ⟨y, hyk⟩ : ∃ y, V[t]? = some y := ⟨_, List.getElem?_eq_getElem hltt⟩
              have hcell8 := hc8 t _ (show (nums (natsI V))[t]? = some (.int .i64 ((y : Nat) : Int)) by simp [nums, natsI, hyk])
              have HCs := Lib.hid (cont_succ (k := k) hyk)
              have j1 : (t : Int) < V.length := by omega
              have j2 : (0 : Int) ≤ (t : Int) := by omega
              have HA2 := hacc.out
              generalize (V.take t).contains k = u at HCs HA2
              have HAc := Lib.hid HA2
              clear hc8 hyk hacc HA2
              cases acc with
              | true =>
                go_wp2
                go_roundg (V.length - (t + 1))
                case measure => have := hgt.out; omega
                case rel => exact ⟨t + 1, true, rfl, by show _ = _; rw [HCs.out]; exact or_t _ HAc.out, by go_num, by omega, rfl, rfl⟩
              | false =>
                by_cases hyk : y = k
                · have hq : ((y : Int) == (k : Int)) = true := by simp; omega
                  have HQ := Lib.hid hq
                  clear hyk
                  go_wp2
                  go_roundg (V.length - (t + 1))
                  case measure => have := hgt.out; omega
                  case rel => exact ⟨t + 1, true, rfl, by show _ = _; rw [HCs.out, HQ.out]; simp, by go_num, by omega, rfl, rfl⟩
                · have hq : ((y : Int) == (k : Int)) = false := by rw [Bool.eq_false_iff]; intro h; simp at h; omega
                  have HQ := Lib.hid hq
                  clear hyk
                  go_wp2
                  go_roundg (V.length - (t + 1))
                  case measure => have := hgt.out; omega
                  case rel => exact ⟨t + 1, false, rfl, by show _ = _; rw [HCs.out, HQ.out]; exact or_f HAc.out, by go_num, by omega, rfl, rfl⟩
            · obtain rfl : t = V.length := by omega
              have E := hacc.out
              rw [List.take_length, ← HSu.out] at E
              have HE := Lib.hid E
              clear hltt ht hgt hacc E
              go_wp2
              go_roundg (l.length - (k + 1))
              case measure => have := hg1.out; omega
              case rel => exact ⟨k + 1, by rw [HE.out], by go_num, by omega, rfl, hb.trans hb5⟩
        · obtain rfl : k = l.length := by omega
          rw [HRd.out]
          go_wp2
          go_ret
          exact ⟨by simp, hb⟩
    · rw [hL] at H1
      have z1 : (z : Int) < d.l.length := by omega
      have z2 : (0 : Int) ≤ (z : Int) := by omega
      have HAb := Lib.hid fun (k : Nat) W (hW : Bel w W) (hk : k < d.l.length) => above_any d A c ls (k : Int) W (hd.keep hW) (hn.keep hW) s1 s2 s3 (in64n (by omega))
      have HAo := Lib.hid fun (k : Nat) (hk : k < d.l.length) => ab_ok (ns := nsOf ls) hc hk
      have HAl := Lib.hid fun k => show (above (gr d.l (nsOf ls)) d.l.length k).length ≤ d.l.length from by
        unfold above
        have := List.length_filter_le (fun i => @decide (Reach (gr d.l (nsOf ls)) k i) (Classical.propDecidable _)) (List.range d.l.length)
        simpa using this
      have HRd := Lib.hid hrd
      obtain ⟨A0, c0, l⟩ := d
      simp only at s1 H1 HAb HAo HAl HRd z1 hzl
      simp only [Sl.val] at HS H1 HAb ⊢
      have hli : (l.length : Int) ≤ 60 := by omega
      unfold AbOut at HAb
      generalize gr l (nsOf ls) = g at HAo HAl HRd
      generalize (ordOut l (nsOf ls)).1 = L at H1
      clear s3 hd hn hL hc hrd hle
      go_enter Try.func6, Try.ntmps6
      go_wp2_with (first
        | (go_at_call 7; refine HS.out.mono ?_; rintro e w0 ⟨rfl, h1⟩; obtain rfl : w = w0 := h1.symm)
        | (go_at_call 9; refine H1.out.mono ?_; rintro e w1 ⟨A1, c1, rfl, hi1, hb1⟩)
        | (go_at_call 8; refine (HA.out _).mono ?_; rintro e w3 ⟨rfl, hb3⟩)
        | go_in)
      have hb0 := hb1.trans hb3
      clear hb1 hb3 hi1
      go_loopg [8, 9] l.length (fun gg rd i wr => ∃ (k : Nat), rd = .bool (rnd g l.length k) ∧ i = .int .i64 k ∧ k ≤ l.length ∧ Hid (gg = l.length - k) ∧ Bel w wr)
      case atStart => exact ⟨0, by rw [rnd_0], rfl, Nat.zero_le _, rfl, hb0⟩
      case round =>
        clear hb0
        clear w3
        obtain ⟨k, rfl, rfl, hk, hg1, hb⟩ := hrel
        by_cases hlt : k < l.length
        · have HC := HAb.out k wr hb hlt
          rw [HAo.out k hlt] at HC
          have HSu := Lib.hid (rnd_succ g l.length k)
          have hal := HAl.out k
          generalize above g l.length k = V at HC HSu hal
          have HCC := Lib.hid HC
          have i1 : (k : Int) < l.length := by omega
          have i2 : (0 : Int) ≤ (k : Int) := by omega
          have i3 : (V.length : Int) ≤ 60 := by omega
          clear HC
          go_wp2_with (first
            | (go_at_call 12; refine HCC.out.mono ?_; rintro e w5 ⟨A5, c5, rfl, hi5, hb5⟩)
            | go_in)
          generalize rnd g l.length k = R at HSu
          go_loopg [8, 12] V.length (fun gg rd i wr => ∃ (t : Nat) (acc : Bool), rd = .bool acc ∧ Hid (acc = (R || (V.take t).contains k)) ∧ i = .int .i64 t ∧ t ≤ V.length ∧ Hid (gg = V.length - t) ∧ w5 = wr)
          case atStart => exact ⟨0, R, rfl, by show _ = _; simp, rfl, Nat.zero_le _, rfl, rfl⟩
          case round =>
            obtain ⟨t, acc, rfl, hacc, rfl, ht, hgt, rfl⟩ := hrel
            by_cases hltt : t < V.length
            · obtain ⟨b8, off8, rfl, hb8, hc8⟩ := hi5 (by simp [nums, natsI]; omega)
              obtain ⟨y, hyk⟩ : ∃ y, V[t]? = some y := ⟨_, List.getElem?_eq_getElem hltt⟩
              have hcell8 := hc8 t _ (show (nums (natsI V))[t]? = some (.int .i64 ((y : Nat) : Int)) by simp [nums, natsI, hyk])
              have HCs := Lib.hid (cont_succ (k := k) hyk)
              have j1 : (t : Int) < V.length := by omega
              have j2 : (0 : Int) ≤ (t : Int) := by omega
              have HA2 := hacc.out
              generalize (V.take t).contains k = u at HCs HA2
              have HAc := Lib.hid HA2
              clear hc8 hyk hacc HA2
              cases acc with
              | true =>
                go_wp2
                go_roundg (V.length - (t + 1))
                case measure => have := hgt.out; omega
                case rel => exact ⟨t + 1, true, rfl, by show _ = _; rw [HCs.out]; exact or_t _ HAc.out, by go_num, by omega, rfl, rfl⟩
              | false =>
                by_cases hyk : y = k
                · have hq : ((y : Int) == (k : Int)) = true := by simp; omega
                  have HQ := Lib.hid hq
                  clear hyk
                  go_wp2
                  go_roundg (V.length - (t + 1))
                  case measure => have := hgt.out; omega
                  case rel => exact ⟨t + 1, true, rfl, by show _ = _; rw [HCs.out, HQ.out]; simp, by go_num, by omega, rfl, rfl⟩
                · have hq : ((y : Int) == (k : Int)) = false := by rw [Bool.eq_false_iff]; intro h; simp at h; omega
                  have HQ := Lib.hid hq
                  clear hyk
                  go_wp2
                  go_roundg (V.length - (t + 1))
                  case measure => have := hgt.out; omega
                  case rel => exact ⟨t + 1, false, rfl, by show _ = _; rw [HCs.out, HQ.out]; exact or_f HAc.out, by go_num, by omega, rfl, rfl⟩
            · obtain rfl : t = V.length := by omega
              have E := hacc.out
              rw [List.take_length, ← HSu.out] at E
              have HE := Lib.hid E
              clear hltt ht hgt hacc E
              go_wp2
              go_roundg (l.length - (k + 1))
              case measure => have := hg1.out; omega
              case rel => exact ⟨k + 1, by rw [HE.out], by go_num, by omega, rfl, hb.trans hb5⟩
        · obtain rfl : k = l.length := by omega
          rw [HRd.out]
          go_wp2
          go_ret
          exact ⟨by simp, hb⟩
  · rw [smallB_no hsm] at HS
    clear hsm hd hn
    simp only [Sl.val] at HS ⊢
    go_enter Try.func6, Try.ntmps6
    go_wp2_with (first
      | (go_at_call 7; refine HS.out.mono ?_; rintro e w0 ⟨rfl, h1⟩; obtain rfl : w = w0 := h1.symm)
      | (go_at_call 8; refine (HA.out _).mono ?_; rintro e w3 ⟨rfl, hb3⟩)
      | go_in)
    go_ret
    exact ⟨rfl, hb3⟩
end Go.Proofs.Ytinbhhcppiamjaa
