import Derived.Test.YtladmlnopbnlgaaGreatDoorZsb
namespace Go.Proofs.YtladmlnopbnlgaaGreatDoor
set_option linter.unusedSimpArgs false
set_option linter.unusedVariables false
open Go.RowKit Go.Lib
attribute [local go_sem ↓] eql_val neq_val

/-! Values: slices.Compact. -/
theorem comp_all (d : Array Val) (h : ∀ j, j < d.size → keeps d j = true) : compactUpTo d d.size = d.toList := by rw [compactUpTo_all d _ h, range_map_get]
theorem VRow.whole {w : World} {b off : Nat} {d : Array Val} (h : VRow w b off d) : Vals w (some ⟨b, off, none⟩) d.toList := h.vals fun j v hj => by
  rw [Array.getElem?_toList] at hj
  obtain ⟨h1, h2⟩ := Array.getElem?_eq_some_iff.1 hj
  exact ⟨h1, by rw [getElem!_pos d j h1]; exact h2⟩
theorem VRow.kept {w : World} {b off kk : Nat} {d dk : Array Val} (h : VRow w b off (dk.extract 0 kk)) (hI : CompInv d d.size kk dk) : Vals w (some ⟨b, off, none⟩) (compactUpTo d d.size) := h.vals fun j v hj => by
  have hl := hI.len
  have hs := hI.size
  have ht := hI.lt
  have hlt : j < (compactUpTo d d.size).length := (List.getElem?_eq_some_iff.1 hj).1
  have h1 : j < (dk.extract 0 kk).size := by simp; omega
  refine ⟨h1, ?_⟩
  rw [hI.low j (by omega)] at hj
  rw [getElem!_pos (dk.extract 0 kk) j h1, ← Option.some.inj hj, getElem!_pos dk j (by omega)]
  simp
set_option maxRecDepth 100000 in
set_option maxHeartbeats 4000000 in
theorem compact_any (d : Array Val) (b off c : Nat) (w0 w : World) (hw : Bel w0 w) (hown : w0.heap.size ≤ b) (hH : VRow w b off d) (hsz : d.size ≤ c) (hc : c ≤ 9223372036854775807) :
    Calls Tryz.prog 13 #[.slice (some ⟨b, off, none⟩) d.size c] w fun e w' => e = .returned (.slice (some ⟨b, off, none⟩) (compactUpTo d d.size).length c) ∧ Bel w0 w' ∧ Vals w' (some ⟨b, off, none⟩) (compactUpTo d d.size) := by
  have same : ∀ W, Bel w W → (∀ j, j < d.size → keeps d j = true) → (compactUpTo d d.size).length = d.size ∧ Vals W (some ⟨b, off, none⟩) (compactUpTo d d.size) := by
    intro W hW hall
    rw [comp_all d hall]
    exact ⟨by simp, (hH.keep hW).whole⟩
  have HS := Lib.hid same
  clear same
  by_cases h2 : d.size < 2
  · clear hH
    have i2 : (d.size : Int) < 2 := by omega
    go_enter Tryz.func13, Tryz.ntmps13
    go_wp2_with fail
    go_ret
    obtain ⟨e1, e2⟩ := HS.out w (Bel.refl _) (fun j hj => keeps_lt_one d j (by omega))
    exact ⟨by rw [e1]; rfl, hw, e2⟩
  · have i2 : ¬ (d.size : Int) < 2 := by omega
    go_enter Tryz.func13, Tryz.ntmps13
    go_wp2_with fail
    go_loopg [3] d.size (fun g s3 wr => ∃ k : Nat, 1 ≤ k ∧ k ≤ d.size ∧ d.size - k ≤ g ∧ s3 = .int .i64 k ∧ Bel w wr ∧ Hid (∀ j, j < k → keeps d j = true))
    case atStart => exact ⟨1, Nat.le_refl _, by omega, by omega, rfl, Bel.refl _, keeps_lt_one d⟩
    case round =>
      obtain ⟨k, hk1, hk, hg, rfl, hbw, hall⟩ := hrel
      by_cases hlt : k < d.size
      · have V := hH.keep hbw
        have hV := Lib.hid V
        obtain ⟨a0, a1, a2, a3, a4⟩ := V.vat k hlt
        obtain ⟨b0, b1, b2, b3, b4⟩ := V.vat (k - 1) (by omega)
        have HH := Lib.hid hH
        clear hH V
        generalize hx : d[k]! = x at a0 a1 a2 a3 a4
        generalize hy : d[k - 1]! = y at b0 b1 b2 b3 b4
        have B := Lib.hid (And.intro hx hy)
        clear hx hy
        have i1 : (k : Int) < d.size := by omega
        by_cases hdup : x = y
        · subst hdup
          obtain ⟨kx, nx, sx, tx, mx⟩ := x
          have hq : veq ⟨kx, nx, sx, tx, mx⟩ ⟨kx, nx, sx, tx, mx⟩ = true := (veq_iff _ _).2 rfl
          go_wp2_with fail
          go_quiet (fail)
          go_wp2_with fail
          clear a0 a1 a2 a3 a4 b0 b1 b2 b3 b4 hq
          go_loopg [3, 5] d.size (fun g s3 s5 wr => ∃ (kk k2 : Nat) (dk : Array Val), s3 = .int .i64 kk ∧ s5 = .int .i64 k2 ∧ 1 ≤ k2 ∧ k + k2 ≤ d.size ∧ d.size - (k + k2) ≤ g ∧ Bel w0 wr ∧ VRow wr b off dk ∧ CompInv d (k + k2) kk dk)
          case atStart => exact ⟨k, 1, d, rfl, rfl, Nat.le_refl _, by omega, by omega, (hw.trans hbw).drewNV _, hV.out.drewN _, CompInv.start hall.out (keeps_neg (by omega) (by rw [B.out.1, B.out.2]))⟩
          case round =>
            obtain ⟨kk, k2, dk, rfl, rfl, h1, hle, hg2, hbr, V, hI⟩ := hrel
            have hkk := hI.lt
            have hds := hI.size
            have HV := Lib.hid V
            have HI := Lib.hid hI
            by_cases hlt2 : k + k2 < d.size
            · have cm : ValAt wr b (off + k * 5 + k2 * 5) d[k + k2]! := by
                have := V.vat (k + k2) (by omega)
                rw [hI.high (k + k2) (by omega)] at this
                rwa [show off + (k + k2) * 5 = off + k * 5 + k2 * 5 by omega] at this
              have cp : ValAt wr b (off + k * 5 + (k2 - 1) * 5) d[k + k2 - 1]! := by
                have := V.vat (k + k2 - 1) (by omega)
                rw [hI.high (k + k2 - 1) (by omega)] at this
                rwa [show off + (k + k2 - 1) * 5 = off + k * 5 + (k2 - 1) * 5 by omega] at this
              have co := V.vat kk (by omega)
              have fo : ∀ i, i < 5 → wr.frozen? ⟨b, off + kk * 5 + i, none⟩ = false := fun i hi => V.free _ (by omega) (by omega)
              obtain ⟨a0, a1, a2, a3, a4⟩ := cm
              obtain ⟨b0, b1, b2, b3, b4⟩ := cp
              obtain ⟨o0, o1, o2, o3, o4⟩ := co
              have f0 : wr.frozen? ⟨b, off + kk * 5, none⟩ = false := fo 0 (by omega)
              have f1 := fo 1 (by omega)
              have f2 := fo 2 (by omega)
              have f3 := fo 3 (by omega)
              have f4 := fo 4 (by omega)
              clear fo V hI
              generalize hx : d[k + k2]! = x at a0 a1 a2 a3 a4
              generalize hy : d[k + k2 - 1]! = y at b0 b1 b2 b3 b4
              generalize dk[kk]! = old at o0 o1 o2 o3 o4
              have C := Lib.hid (And.intro hx hy)
              clear hx hy
              have i3 : (k2 : Int) < (d.size - k : Nat) := by omega
              by_cases huv : x = y
              · subst huv
                obtain ⟨kx, nx, sx, tx, mx⟩ := x
                have hq : veq ⟨kx, nx, sx, tx, mx⟩ ⟨kx, nx, sx, tx, mx⟩ = true := (veq_iff _ _).2 rfl
                go_wp2_with fail
                go_quiet (fail)
                go_wp2_with fail
                go_roundg (d.size - (k + (k2 + 1)))
                case measure => omega
                case rel => exact ⟨kk, k2 + 1, dk, rfl, by go_num, by omega, by omega, Nat.le_refl _, hbr.drewNV _, HV.out.drewN _, HI.out.skip (keeps_neg (by omega) (by rw [C.out.1, C.out.2]))⟩
              · have hk2 := Lib.hid (keeps_pos (d := d) (m := k + k2) (by rw [C.out.1, C.out.2]; exact huv))
                have hq : veq x y = false := by
                  cases h : veq x y with
                  | false => rfl
                  | true => exact absurd ((veq_iff _ _).1 h) huv
                have X := Lib.hid (show d[k + k2]! = x from C.out.1)
                obtain ⟨kx, nx, sx, tx, mx⟩ := x
                obtain ⟨ky, ny, sy, ty, my⟩ := y
                clear huv C
                go_wp2_with fail
                go_quiet (fail)
                go_wp2_with fail
                go_roundg (d.size - (k + (k2 + 1)))
                case measure => omega
                case rel => exact ⟨kk + 1, k2 + 1, dk.setIfInBounds kk ⟨kx, nx, sx, tx, mx⟩, by go_num, by go_num, by omega, by omega, Nat.le_refl _, put5_bel' (hbr.drewNV _) hown, (HV.out.drewN _).put' (by omega), by have := HI.out.keep hlt2 hk2.out; rwa [X.out] at this⟩
            · have hend : k + k2 = d.size := by omega
              have hcl : ∀ ty, (Builtin.clear_ #[22] ty #[.slice (some ⟨b, off + kk * 5, none⟩) (d.size - kk) (c - kk)]).run Tryz.prog wr = .ok (.tuple #[]) (wr.setCells b (off + kk * 5) (zcells (d.size - kk))) :=
                fun ty => clear_vals wr ty b (off + kk * 5) (d.size - kk) (c - kk) (by omega) (fun j hj => by
                  have hV := V.vat (kk + j / 5) (by omega)
                  obtain ⟨e0, e1, e2, e3, e4⟩ := hV
                  have hm : j % 5 < 5 := Nat.mod_lt _ (by omega)
                  have hd := Nat.div_add_mod j 5
                  rw [show off + kk * 5 + j = off + (kk + j / 5) * 5 + j % 5 by omega]
                  generalize j % 5 = r at hm
                  match r, hm with
                  | 0, _ => rw [Nat.add_zero, e0]; rfl
                  | 1, _ => rw [e1]; rfl
                  | 2, _ => rw [e2]; rfl
                  | 3, _ => rw [e3]; rfl
                  | 4, _ => rw [e4]; rfl) (fun j hj => V.free _ (by omega) (by omega))
              have hle3 : (kk : Int) ≤ d.size := by omega
              have i3 : ¬ (k2 : Int) < (d.size - k : Nat) := by omega
              clear V hI
              go_wp2_with fail
              go_ret
              have hI := HI.out
              rw [hend] at hI
              exact ⟨by rw [hI.len]; rfl, setCells_bel _ _ hbr hown, (HV.out.cleared (m := 0) (by omega)).kept hI⟩
        · have R := Lib.hid (show ∀ j, j < k + 1 → keeps d j = true from fun j hj => by
            by_cases e : j = k
            · subst e
              exact keeps_pos (by rw [B.out.1, B.out.2]; exact hdup)
            · exact hall.out j (by omega))
          have hq : veq x y = false := by
            cases h : veq x y with
            | false => rfl
            | true => exact absurd ((veq_iff _ _).1 h) hdup
          obtain ⟨kx, nx, sx, tx, mx⟩ := x
          obtain ⟨ky, ny, sy, ty, my⟩ := y
          clear hdup B
          go_wp2_with fail
          go_quiet (fail)
          go_wp2_with fail
          go_roundg (d.size - (k + 1))
          case measure => omega
          case rel => exact ⟨k + 1, by omega, by omega, Nat.le_refl _, by go_num, hbw.drewNV _, R.out⟩
      · have e : k = d.size := by omega
        subst e
        clear hH
        have i1 : ¬ (d.size : Int) < d.size := by omega
        go_wp2_with fail
        go_ret
        obtain ⟨e1, e2⟩ := HS.out _ hbw hall.out
        exact ⟨by rw [e1]; rfl, hw.trans hbw, e2⟩
end Go.Proofs.YtladmlnopbnlgaaGreatDoor
