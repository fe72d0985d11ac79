/-
  No cell of these rows narrows 'for every input' (looked for: loops, veiled, ifaces, maps, wideKeys, modest, calm, conditions, laid).
  DERIVED. THE GIVEN ROWS OF THIS SEAT. 6 by the template 'for every input the law returns true; each argument reads behind the call as it read before'; 0 by the template 'total and deterministic' (their statements: YthcpgbbmgabpnaaTotals.lean).
  GIVEN WITH THE SEED: the statements are not yours to turn. If you find one false, say at which input.
  Laid BY PROGRAM, IN A SANDBOX (cutbox-rows.mjs): the forced cells as the released guide's own fill.sh prints them over the translation 5231c6f00e976a75… (all of the seat's roots in one cut). By AI agents, Wed Nov 11 2026. No macro, syntax, notation, axiom, sorry.
-/
import Derived.Test.YthcpgbbmgabpnaaChecked
import GoSem.Claim
import GoSem.ClaimJoined
import GoSem.ClaimMapViews
import Derived.JoinedTies
import Derived.KernelRfl
namespace Go.Proofs.Ythcpgbbmgabpnaa
/- THE CELL 'sum', in the pinned program and in every row, IS THE sha256 OF THE DUMP (.gsa) THAT YthcpgbbmgabpnaaProg.lean LOADS. Nothing in Lean hashes anything: it is a label: what it is worth is what the hold of that sum in a sandbox is worth. -/
noncomputable def Try.pinned : Pinned := { name := "ythcpgbbmgabpnaa", sum := "5231c6f00e976a7544606cfaf8083364724ef11134b28ef2ab81e8c286686938", checked := Try.checked }
namespace Rows
def none {H : Type} : Left H := { results := [], args := [] }

/-- 'soffitlaw03.CharsLook': WHATEVER THE INPUT: true; the input reads as it did. -/
def charsLookSpec : ChangeSpec := { name := "charsLook", fn := fun _ => fun
  | [d] => { results := [.lit (.bool true)], args := [d] }
  | _ => none }
def charsLookRow : OpenClaim := { program := "ythcpgbbmgabpnaa", sum := "5231c6f00e976a7544606cfaf8083364724ef11134b28ef2ab81e8c286686938", func := "soffit/soffitlaw03.CharsLook", spec := "charsLook", inPlace := ["internal/abi.NoEscape", "internal/bytealg.IndexByteString", "internal/bytealg.IndexString"], named := ["internal/bytealg.MaxLen"], apart := false }
def CharsLookSaid : Prop := charsLookRow.holds Try.pinned (OpenSpec.ofChange charsLookSpec)

/-- ITS FALSE NEIGHBOUR: 'it returns false'. Refute it at one input. -/
def charsLookWrong : ChangeSpec := { name := "charsLook", fn := fun _ => fun
  | [d] => { results := [.lit (.bool false)], args := [d] }
  | _ => none }
def CharsLookWrongFalsely : Prop := charsLookRow.holds Try.pinned (OpenSpec.ofChange charsLookWrong)

/-- 'soffitlaw03.CharsEscape': WHATEVER THE INPUT: true; the input reads as it did. -/
def charsEscapeSpec : ChangeSpec := { name := "charsEscape", fn := fun _ => fun
  | [d] => { results := [.lit (.bool true)], args := [d] }
  | _ => none }
def charsEscapeRow : OpenClaim := { program := "ythcpgbbmgabpnaa", sum := "5231c6f00e976a7544606cfaf8083364724ef11134b28ef2ab81e8c286686938", func := "soffit/soffitlaw03.CharsEscape", spec := "charsEscape", inPlace := ["internal/abi.NoEscape", "internal/bytealg.IndexByteString", "internal/bytealg.IndexString"], named := ["internal/bytealg.MaxLen"], apart := false }
def CharsEscapeSaid : Prop := charsEscapeRow.holds Try.pinned (OpenSpec.ofChange charsEscapeSpec)

/-- ITS FALSE NEIGHBOUR: 'it returns false'. Refute it at one input. -/
def charsEscapeWrong : ChangeSpec := { name := "charsEscape", fn := fun _ => fun
  | [d] => { results := [.lit (.bool false)], args := [d] }
  | _ => none }
def CharsEscapeWrongFalsely : Prop := charsEscapeRow.holds Try.pinned (OpenSpec.ofChange charsEscapeWrong)

/-- 'soffitlaw03.CharsUnescape': WHATEVER THE INPUT: true; the input reads as it did. -/
def charsUnescapeSpec : ChangeSpec := { name := "charsUnescape", fn := fun _ => fun
  | [d] => { results := [.lit (.bool true)], args := [d] }
  | _ => none }
def charsUnescapeRow : OpenClaim := { program := "ythcpgbbmgabpnaa", sum := "5231c6f00e976a7544606cfaf8083364724ef11134b28ef2ab81e8c286686938", func := "soffit/soffitlaw03.CharsUnescape", spec := "charsUnescape", inPlace := ["internal/bytealg.IndexByteString", "internal/bytealg.IndexString", "internal/abi.NoEscape"], named := ["internal/bytealg.MaxLen"], apart := false }
def CharsUnescapeSaid : Prop := charsUnescapeRow.holds Try.pinned (OpenSpec.ofChange charsUnescapeSpec)

/-- ITS FALSE NEIGHBOUR: 'it returns false'. Refute it at one input. -/
def charsUnescapeWrong : ChangeSpec := { name := "charsUnescape", fn := fun _ => fun
  | [d] => { results := [.lit (.bool false)], args := [d] }
  | _ => none }
def CharsUnescapeWrongFalsely : Prop := charsUnescapeRow.holds Try.pinned (OpenSpec.ofChange charsUnescapeWrong)

/-- 'soffitlaw03.CharsBack': WHATEVER THE INPUT: true; the input reads as it did. -/
def charsBackSpec : ChangeSpec := { name := "charsBack", fn := fun _ => fun
  | [d] => { results := [.lit (.bool true)], args := [d] }
  | _ => none }
def charsBackRow : OpenClaim := { program := "ythcpgbbmgabpnaa", sum := "5231c6f00e976a7544606cfaf8083364724ef11134b28ef2ab81e8c286686938", func := "soffit/soffitlaw03.CharsBack", spec := "charsBack", inPlace := ["internal/abi.NoEscape", "internal/bytealg.IndexByteString", "internal/bytealg.IndexString"], named := ["internal/bytealg.MaxLen"], apart := false }
def CharsBackSaid : Prop := charsBackRow.holds Try.pinned (OpenSpec.ofChange charsBackSpec)

/-- ITS FALSE NEIGHBOUR: 'it returns false'. Refute it at one input. -/
def charsBackWrong : ChangeSpec := { name := "charsBack", fn := fun _ => fun
  | [d] => { results := [.lit (.bool false)], args := [d] }
  | _ => none }
def CharsBackWrongFalsely : Prop := charsBackRow.holds Try.pinned (OpenSpec.ofChange charsBackWrong)

/-- 'soffitlaw03.CharsParts': WHATEVER THE INPUT: true; the input reads as it did. -/
def charsPartsSpec : ChangeSpec := { name := "charsParts", fn := fun _ => fun
  | [d1, d2] => { results := [.lit (.bool true)], args := [d1, d2] }
  | _ => none }
def charsPartsRow : OpenClaim := { program := "ythcpgbbmgabpnaa", sum := "5231c6f00e976a7544606cfaf8083364724ef11134b28ef2ab81e8c286686938", func := "soffit/soffitlaw03.CharsParts", spec := "charsParts", inPlace := ["internal/abi.NoEscape", "internal/bytealg.IndexByteString", "internal/bytealg.IndexString"], named := ["internal/bytealg.MaxLen"], apart := false }
def CharsPartsSaid : Prop := charsPartsRow.holds Try.pinned (OpenSpec.ofChange charsPartsSpec)

/-- ITS FALSE NEIGHBOUR: 'it returns false'. Refute it at one input. -/
def charsPartsWrong : ChangeSpec := { name := "charsParts", fn := fun _ => fun
  | [d1, d2] => { results := [.lit (.bool false)], args := [d1, d2] }
  | _ => none }
def CharsPartsWrongFalsely : Prop := charsPartsRow.holds Try.pinned (OpenSpec.ofChange charsPartsWrong)

/-- 'soffitlaw03.CharsNumbers': WHATEVER THE INPUT: true; the input reads as it did. -/
def charsNumbersSpec : ChangeSpec := { name := "charsNumbers", fn := fun _ => fun
  | [d1, d2] => { results := [.lit (.bool true)], args := [d1, d2] }
  | _ => none }
def charsNumbersRow : OpenClaim := { program := "ythcpgbbmgabpnaa", sum := "5231c6f00e976a7544606cfaf8083364724ef11134b28ef2ab81e8c286686938", func := "soffit/soffitlaw03.CharsNumbers", spec := "charsNumbers", inPlace := ["internal/bytealg.IndexByteString", "internal/bytealg.IndexString", "internal/abi.NoEscape"], named := ["internal/bytealg.MaxLen"], apart := false }
def CharsNumbersSaid : Prop := charsNumbersRow.holds Try.pinned (OpenSpec.ofChange charsNumbersSpec)

/-- ITS FALSE NEIGHBOUR: 'it returns false'. Refute it at one input. -/
def charsNumbersWrong : ChangeSpec := { name := "charsNumbers", fn := fun _ => fun
  | [d1, d2] => { results := [.lit (.bool false)], args := [d1, d2] }
  | _ => none }
def CharsNumbersWrongFalsely : Prop := charsNumbersRow.holds Try.pinned (OpenSpec.ofChange charsNumbersWrong)

/- THE SECOND FORM. 'bulk': how many values and letters a reading holds, each counted each time it is reached (what is shared counts as often as it is met; a slice's spare places count too). A statement '..UptoSaid' is the law's where the arguments, and the package variables that the reading takes, are together of bulk at most 1048576: NARROWER than '..Said'. Prove '..Said' where nothing that the law and all that it calls make is longer than what came in: it says more and counts as full. Else prove '..UptoSaid'. A law counts once. -/
mutual
def uptoBulk {H : Type} : DataW H → Nat
  | .lit (.string bytes) => bytes.length + 1
  | .lit _ => 1
  | .nil => 1
  | .ptr d => uptoBulk d + 1
  | .slice elems spare => uptoBulkAll elems + uptoBulkAll spare + 1
  | .agg parts => uptoBulkAll parts + 1
  | .iface _ d => uptoBulk d + 1
  | .map entries => uptoBulkEntries entries + 1
  | .held _ => 1
def uptoBulkAll {H : Type} : List (DataW H) → Nat
  | [] => 0
  | d :: r => uptoBulk d + uptoBulkAll r
def uptoBulkEntries {H : Type} : List (Lit × DataW H) → Nat
  | [] => 0
  | x :: r => uptoBulkEntry x + uptoBulkEntries r
def uptoBulkEntry {H : Type} : Lit × DataW H → Nat
  | (.string bytes, d) => bytes.length + uptoBulk d + 1
  | (_, d) => uptoBulk d + 1
 end
def uptoSmall : (H : Type) → List (DataW H) → Bool := fun _ ds => decide (uptoBulkAll ds ≤ 1048576)
def OpenSpec.upto (s : _root_.Go.ChangeSpec) : _root_.Go.OpenSpec := { _root_.Go.OpenSpec.ofChange s with cond := some uptoSmall }

/-- 'soffitlaw03.CharsLook', WHERE WHAT IT READS IS OF BULK AT MOST 1048576: true; the input reads as it did. -/
def charsLookUptoRow : OpenClaim := { program := "ythcpgbbmgabpnaa", sum := "5231c6f00e976a7544606cfaf8083364724ef11134b28ef2ab81e8c286686938", func := "soffit/soffitlaw03.CharsLook", spec := "charsLook", inPlace := ["internal/abi.NoEscape", "internal/bytealg.IndexByteString", "internal/bytealg.IndexString"], named := ["internal/bytealg.MaxLen"], apart := false, narrowed := true }
def CharsLookUptoSaid : Prop := charsLookUptoRow.holds Try.pinned (OpenSpec.upto charsLookSpec)

/-- 'soffitlaw03.CharsEscape', WHERE WHAT IT READS IS OF BULK AT MOST 1048576: true; the input reads as it did. -/
def charsEscapeUptoRow : OpenClaim := { program := "ythcpgbbmgabpnaa", sum := "5231c6f00e976a7544606cfaf8083364724ef11134b28ef2ab81e8c286686938", func := "soffit/soffitlaw03.CharsEscape", spec := "charsEscape", inPlace := ["internal/abi.NoEscape", "internal/bytealg.IndexByteString", "internal/bytealg.IndexString"], named := ["internal/bytealg.MaxLen"], apart := false, narrowed := true }
def CharsEscapeUptoSaid : Prop := charsEscapeUptoRow.holds Try.pinned (OpenSpec.upto charsEscapeSpec)

/-- 'soffitlaw03.CharsUnescape', WHERE WHAT IT READS IS OF BULK AT MOST 1048576: true; the input reads as it did. -/
def charsUnescapeUptoRow : OpenClaim := { program := "ythcpgbbmgabpnaa", sum := "5231c6f00e976a7544606cfaf8083364724ef11134b28ef2ab81e8c286686938", func := "soffit/soffitlaw03.CharsUnescape", spec := "charsUnescape", inPlace := ["internal/bytealg.IndexByteString", "internal/bytealg.IndexString", "internal/abi.NoEscape"], named := ["internal/bytealg.MaxLen"], apart := false, narrowed := true }
def CharsUnescapeUptoSaid : Prop := charsUnescapeUptoRow.holds Try.pinned (OpenSpec.upto charsUnescapeSpec)

/-- 'soffitlaw03.CharsBack', WHERE WHAT IT READS IS OF BULK AT MOST 1048576: true; the input reads as it did. -/
def charsBackUptoRow : OpenClaim := { program := "ythcpgbbmgabpnaa", sum := "5231c6f00e976a7544606cfaf8083364724ef11134b28ef2ab81e8c286686938", func := "soffit/soffitlaw03.CharsBack", spec := "charsBack", inPlace := ["internal/abi.NoEscape", "internal/bytealg.IndexByteString", "internal/bytealg.IndexString"], named := ["internal/bytealg.MaxLen"], apart := false, narrowed := true }
def CharsBackUptoSaid : Prop := charsBackUptoRow.holds Try.pinned (OpenSpec.upto charsBackSpec)

/-- 'soffitlaw03.CharsParts', WHERE WHAT IT READS IS OF BULK AT MOST 1048576: true; the input reads as it did. -/
def charsPartsUptoRow : OpenClaim := { program := "ythcpgbbmgabpnaa", sum := "5231c6f00e976a7544606cfaf8083364724ef11134b28ef2ab81e8c286686938", func := "soffit/soffitlaw03.CharsParts", spec := "charsParts", inPlace := ["internal/abi.NoEscape", "internal/bytealg.IndexByteString", "internal/bytealg.IndexString"], named := ["internal/bytealg.MaxLen"], apart := false, narrowed := true }
def CharsPartsUptoSaid : Prop := charsPartsUptoRow.holds Try.pinned (OpenSpec.upto charsPartsSpec)

/-- 'soffitlaw03.CharsNumbers', WHERE WHAT IT READS IS OF BULK AT MOST 1048576: true; the input reads as it did. -/
def charsNumbersUptoRow : OpenClaim := { program := "ythcpgbbmgabpnaa", sum := "5231c6f00e976a7544606cfaf8083364724ef11134b28ef2ab81e8c286686938", func := "soffit/soffitlaw03.CharsNumbers", spec := "charsNumbers", inPlace := ["internal/bytealg.IndexByteString", "internal/bytealg.IndexString", "internal/abi.NoEscape"], named := ["internal/bytealg.MaxLen"], apart := false, narrowed := true }
def CharsNumbersUptoSaid : Prop := charsNumbersUptoRow.holds Try.pinned (OpenSpec.upto charsNumbersSpec)

end Rows
end Go.Proofs.Ythcpgbbmgabpnaa
