/- How an int of a law is opened. -/
import Derived.Test.YtinnlahmlepeeaaDoorFraZ
namespace Go.Proofs.YtinnlahmlepeeaaDoor
open Go.RowKit Go.Joins Go.Deep Go.ChangeShapes Go.WideShapes
section
variable {H : Type} {enc : TypeId × Value → H} {w : World} {base : Nat} {spare : Nat → Bool} {held : Bool}
set_option maxRecDepth 100000 in
theorem open_nn {r : Reach} {b0 : Nat} {v : Value} {d : DataW H} {p : List MemPlace} (hv : Value.okWide Tryd.prog w r b0 3 v) (h : DataW.Trod enc Tryd.prog w base spare held 3 v d p) :
    ∃ x : Int, v = .int .i64 x ∧ In64 x := by
  obtain ⟨a, e, _, _, wa⟩ := open_int Tryd.underlying3 hv h
  exact ⟨a, e, in_of (by simpa [Lit.wf, IntKind.min, IntKind.max, IntKind.signed, IntKind.bits] using wa)⟩
end
end Go.Proofs.YtinnlahmlepeeaaDoor
