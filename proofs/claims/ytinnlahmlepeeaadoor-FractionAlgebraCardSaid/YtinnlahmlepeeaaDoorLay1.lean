/- Contracts of the library that are laid over this translation, in plain words (numbers of functions and types of the one in those of the other). -/
import Derived.Shelf.Bits.Mul64
import Derived.Shelf.Spec.BitsCarry
import Derived.Ground.NamesProg
import Derived.Ground.Names7Prog
import Derived.Test.YtinnlahmlepeeaaDoorProg
namespace Go.Proofs.YtinnlahmlepeeaaDoor
open Go.Shelf Go.RowKit Go.Lib Go.Proofs

def Tryd.mulL_ren : Go.Shelf.Ren := ⟨fun | 264 => 65 | n => n, fun | 53 => 45 | 46 => 78 | n => n, fun | n => n⟩
theorem Tryd.mulL : Go.Proofs.Lays.n264 Tryd.prog Tryd.mulL_ren :=
  { mixed := by kernel_rfl,
    f264 := Tryd.func65.trans (congrArg some (by kernel_rfl)),
    t46 := Tryd.underlying78,
    a46 := Tryd.isAgg78,
    z46 := Tryd.sizeOf78,
    v46 := Tryd.zeroValue78,
    t53 := Tryd.underlying45,
    a53 := Tryd.isAgg45,
    z53 := Tryd.sizeOf45,
    v53 := Tryd.zeroValue45 }
def Tryd.addL_ren : Go.Shelf.Ren := ⟨fun | 25 => 73 | n => n, fun | 22 => 45 | n => n, fun | n => n⟩
theorem Tryd.addL : Go.Proofs.Lays7.n25 Tryd.prog Tryd.addL_ren :=
  { mixed := by kernel_rfl,
    f25 := Tryd.func73.trans (congrArg some (by kernel_rfl)),
    t22 := Tryd.underlying45,
    a22 := Tryd.isAgg45,
    z22 := Tryd.sizeOf45,
    v22 := Tryd.zeroValue45,
    i22 := by kernel_rfl }
def Tryd.subL_ren : Go.Shelf.Ren := ⟨fun | 26 => 68 | n => n, fun | 22 => 45 | n => n, fun | n => n⟩
theorem Tryd.subL : Go.Proofs.Lays7.n26 Tryd.prog Tryd.subL_ren :=
  { mixed := by kernel_rfl,
    f26 := Tryd.func68.trans (congrArg some (by kernel_rfl)),
    t22 := Tryd.underlying45,
    a22 := Tryd.isAgg45,
    z22 := Tryd.sizeOf45,
    v22 := Tryd.zeroValue45,
    i22 := by kernel_rfl }
end Go.Proofs.YtinnlahmlepeeaaDoor
