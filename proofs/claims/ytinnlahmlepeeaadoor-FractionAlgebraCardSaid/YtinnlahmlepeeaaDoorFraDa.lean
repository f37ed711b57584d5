/- Division as over and modulo use it, at all operands; the sum. -/
import Derived.Test.YtinnlahmlepeeaaDoorFraDv
import Derived.Test.YtinnlahmlepeeaaDoorFraI
namespace Go.Proofs.YtinnlahmlepeeaaDoor
open Go.RowKit
theorem divAt_any {m d : Int} (hd : 0 < d) (hd' : d < 18446744073709551616) : DivAt m d := by
  intro w
  have hl := wlo_bd m
  have h1 := Int.emod_nonneg (whi m) (show d ≠ 0 by omega)
  have h2 := Int.emod_lt_of_pos (whi m) hd
  rcases Int.lt_or_le 0 (whi m % d) with h | h
  · exact div64_high _ _ _ h h2 ⟨hl.1, by omega⟩ ⟨by omega, hd'⟩ w
  · have e : whi m % d = 0 := by omega
    rw [e, Int.zero_mul, Int.zero_add]
    exact div64_low _ _ ⟨hl.1, by omega⟩ ⟨by omega, hd'⟩ (by omega) w
theorem add_any (a b : F2) (ha : In64 a.1 ∧ In64 a.2) (hb : In64 b.1 ∧ In64 b.2) (w : World) : Calls Tryd.prog 16 #[.agg #[.int .i64 a.1, .int .i64 a.2], .agg #[.int .i64 b.1, .int .i64 b.2]] w fun e w' =>
    e = .returned (.tuple #[.agg #[.int .i64 (addR a b).1.1, .int .i64 (addR a b).1.2], .int .i64 (addR a b).2]) ∧ Below w.heap.size w w' :=
  add_of a b ha hb (fun _ _ d h0 h1 => divAt_any h0 (by omega)) w
end Go.Proofs.YtinnlahmlepeeaaDoor
