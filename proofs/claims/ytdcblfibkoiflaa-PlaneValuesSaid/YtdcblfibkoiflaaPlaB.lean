/- The walk of PlaneValues. -/
import Derived.Test.YtdcblfibkoiflaaPlaA
namespace Go.Proofs.Ytdcblfibkoiflaa
open Go.RowKit
theorem valuesTree : treeB Try.prog con1 [] 300 20 3 [.agg (iv 0 4), .agg (iv 4 3)] = .ret (.one (.bool (.lit true))) := by kernel_rfl
theorem values_walk (a b c d x y z : Int) (w : World) : Calls Try.prog 3 #[.agg #[.int .i64 a, .int .i64 b, .int .i64 c, .int .i64 d], .agg #[.int .i64 x, .int .i64 y, .int .i64 z]] w fun e w' => e = .returned (.bool true) ∧ Below w.heap.size w w' :=
  tree_law (ρ := envX [a, b, c, d, x, y, z] []) (con1_ok _) .nil wide valuesTree (by kernel_rfl) rfl Good.yes w
end Go.Proofs.Ytdcblfibkoiflaa
