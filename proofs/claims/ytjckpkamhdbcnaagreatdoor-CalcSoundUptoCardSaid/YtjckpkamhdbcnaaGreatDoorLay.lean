/- The contracts of the library functions that this program calls, laid at this program's numbers by the kit's tool. -/
import Derived.Shelf.SlicesE.Clone
import Derived.Ground.SlgnProg
import Derived.Test.YtjckpkamhdbcnaaGreatDoorProg
namespace Go.Proofs
open Go.Shelf
def Tryz.cloneX_ren : Go.Shelf.Ren := ⟨fun | 41 => 143 | n => n, fun | 22 => 26 | 23 => 28 | 4 => 4 | n => n, fun | n => n⟩
theorem Tryz.cloneX : Go.Proofs.SlLaysE0.n41 Tryz.prog Tryz.cloneX_ren := {
  mixed := by kernel_rfl
  f41 := ⟨Tryz.f143.name, by decide, Tryz.func143.trans (congrArg some (by kernel_rfl))⟩
  t4 := Tryz.underlying4
  a4 := Tryz.isAgg4
  z4 := Tryz.sizeOf4
  v4 := Tryz.zeroValue4
  t22 := Tryz.underlying26
  a22 := Tryz.isAgg26
  z22 := Tryz.sizeOf26
  v22 := Tryz.zeroValue26 }
end Go.Proofs
