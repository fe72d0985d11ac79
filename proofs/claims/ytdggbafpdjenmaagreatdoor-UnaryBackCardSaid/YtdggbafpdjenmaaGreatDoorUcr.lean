import Derived.Test.YtdggbafpdjenmaaGreatDoorUcp
import Derived.Test.YtdggbafpdjenmaaGreatDoorUcq
namespace Go.Proofs.YtdggbafpdjenmaaGreatDoor
set_option linter.unusedSimpArgs false
set_option linter.unusedVariables false
open Go.RowKit
/-! An interval, whole. -/
theorem uint_any (op : Bool) (ts : List Tok) (w : World) (b : Nat) (A : Option Addr) (c i : Nat) (en wr : Int) (hT : Toks w A ts) (hr : Rdc w b A ts.length c i en wr 0) (hi : i ≤ ts.length) (hl : ts.length ≤ 65536) (hB : ∃ B, Toks B A ts ∧ Bel B w ∧ B.heap.size ≤ b) (hS : ∀ t ∈ ts, ksnd t = true) :
    Calls Tryz.prog 64 #[.pointer (some ⟨b, 0, none⟩), .bool op] w (TstOut ts b A c en wr (intP op (ts.drop i)) w) := by
  cases hv : valP ordk (ts.drop i) with
  | bad q e => exact uint_low op ts w b A c i en wr hT hr hi hl hB hS q e hv
  | ok lo r2 =>
    cases hs : isS [46, 46] r2 with
    | false => exact uint_nodots op ts w b A c i en wr hT hr hi hl hB hS lo r2 hv hs
    | true =>
      cases hv2 : valP (fun k => decide (k = lo.kind)) r2.tail with
      | bad q e => exact uint_high op ts w b A c i en wr hT hr hi hl hB hS lo r2 q e hv hs hv2
      | ok hi2 r3 =>
        cases hs3 : isS [93] r3 with
        | true => exact uint_closed op ts w b A c i en wr hT hr hi hl hB hS lo hi2 r2 r3 hv hs hv2 hs3
        | false =>
          cases h4 : isS [41] r3 with
          | true => exact uint_par op ts w b A c i en wr hT hr hi hl hB hS lo hi2 r2 r3 hv hs hv2 hs3 h4
          | false =>
            cases h5 : isS [91] r3 with
            | true => exact uint_brk op ts w b A c i en wr hT hr hi hl hB hS lo hi2 r2 r3 hv hs hv2 hs3 h4 h5
            | false => exact uint_bad op ts w b A c i en wr hT hr hi hl hB hS lo hi2 r2 r3 hv hs hv2 hs3 h4 h5
end Go.Proofs.YtdggbafpdjenmaaGreatDoor
