/- Contracts of the library that are laid over this translation, in plain words (numbers of functions and types of the one in those of the other). -/
import Derived.Shelf.SlGeneric
import Derived.Ground.Names2Prog
import Derived.Shelf.Slices.SearchI
import Derived.Test.YtlmijfgmfcnngaaProg
namespace Go.Proofs.Ytlmijfgmfcnngaa
open Go.Shelf Go.RowKit Go.Lib Go.Proofs

def Try.bsL_ren : Go.Shelf.Ren := ⟨fun | 25 => 60 | 31 => 67 | 32 => 72 | 37 => 78 | n => n, fun | 22 => 23 | 3 => 3 | 4 => 4 | 40 => 77 | 0 => 0 | n => n, fun | n => n⟩
theorem Try.bsL : Go.Proofs.Lays2.n25 Try.prog Try.bsL_ren :=
  { mixed := by kernel_rfl,
    f25 := Try.func60.trans (congrArg some (by kernel_rfl)),
    f31 := Try.func67.trans (congrArg some (by kernel_rfl)),
    f32 := Try.func72.trans (congrArg some (by kernel_rfl)),
    f37 := Try.func78.trans (congrArg some (by kernel_rfl)),
    t0 := Try.underlying0,
    a0 := Try.isAgg0,
    z0 := Try.sizeOf0,
    v0 := Try.zeroValue0,
    t3 := Try.underlying3,
    a3 := Try.isAgg3,
    z3 := Try.sizeOf3,
    v3 := Try.zeroValue3,
    t4 := Try.underlying4,
    a4 := Try.isAgg4,
    z4 := Try.sizeOf4,
    v4 := Try.zeroValue4,
    t22 := Try.underlying23,
    a22 := Try.isAgg23,
    z22 := Try.sizeOf23,
    v22 := Try.zeroValue23,
    t40 := Try.underlying77,
    a40 := Try.isAgg77,
    z40 := Try.sizeOf77,
    v40 := Try.zeroValue77 }
end Go.Proofs.Ytlmijfgmfcnngaa
