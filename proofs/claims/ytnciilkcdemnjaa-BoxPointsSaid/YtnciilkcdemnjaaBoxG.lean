/- Hull, Intersect, Overlap of two boxes that overlap. -/
import Derived.Test.YtnciilkcdemnjaaBoxFw
namespace Go.Proofs.Ytnciilkcdemnjaa
open Go.RowKit
def ovF : PC := [(.le (.mn (.at 3) (.at 9)) (.mx (.at 0) (.at 6)), false), (.le (.mn (.at 4) (.at 10)) (.mx (.at 1) (.at 7)), false), (.le (.mn (.at 5) (.at 11)) (.mx (.at 2) (.at 8)), false)]
def ovA : PC := okAB ++ ovF
theorem bHull_tree : tree Try.prog [] okAB 300 20 21 [.agg (iv 0 6), .agg (iv 6 6)] = .ret (.tup [⟨true, [.int .i64 (.mn (.at 0) (.at 6)), .int .i64 (.mn (.at 1) (.at 7)), .int .i64 (.mn (.at 2) (.at 8)), .int .i64 (.mx (.at 3) (.at 9)), .int .i64 (.mx (.at 4) (.at 10)), .int .i64 (.mx (.at 5) (.at 11))]⟩, ⟨false, [.int .i64 (.lit 0)]⟩]) := by kernel_rfl
theorem bInt_tree : tree Try.prog [] ovA 300 20 20 [.agg (iv 0 6), .agg (iv 6 6)] = .ret (.tup [⟨true, [.int .i64 (.mx (.at 0) (.at 6)), .int .i64 (.mx (.at 1) (.at 7)), .int .i64 (.mx (.at 2) (.at 8)), .int .i64 (.mn (.at 3) (.at 9)), .int .i64 (.mn (.at 4) (.at 10)), .int .i64 (.mn (.at 5) (.at 11))]⟩, ⟨false, [.int .i64 (.lit 0)]⟩]) := by kernel_rfl
theorem bOvl_tree : tree Try.prog [] ovA 300 20 29 [.agg (iv 0 6), .agg (iv 6 6)] = .ret (.one (.bool (.lit true))) := by kernel_rfl
theorem bHull_is (x y z u v w p q r s t e i j k : Int) (ha : VB x y z u v w) (hb : VB p q r s t e)  (W : World) : Calls Try.prog 21 #[.agg #[.int .i64 x, .int .i64 y, .int .i64 z, .int .i64 u, .int .i64 v, .int .i64 w], .agg #[.int .i64 p, .int .i64 q, .int .i64 r, .int .i64 s, .int .i64 t, .int .i64 e]] W fun e' w' => e' = .returned (.tuple #[.agg #[.int .i64 (mnI x p), .int .i64 (mnI y q), .int .i64 (mnI z r), .int .i64 (mxI u s), .int .i64 (mxI v t), .int .i64 (mxI w e)], .int .i64 0]) ∧ Below W.heap.size W w' := by
  have g1 : PC.Ok (envX [x, y, z, u, v, w, p, q, r, s, t, e, i, j, k] []) okAB := okAB_ok ha hb
  exact tree_fun (ρ := envX [x, y, z, u, v, w, p, q, r, s, t, e, i, j, k] []) .nil g1 wide bHull_tree (by kernel_rfl) rfl (u := .tuple #[.agg #[.int .i64 (mnI x p), .int .i64 (mnI y q), .int .i64 (mnI z r), .int .i64 (mxI u s), .int .i64 (mxI v t), .int .i64 (mxI w e)], .int .i64 0]) (All.ret rfl) W
theorem bInt_is (x y z u v w p q r s t e i j k : Int) (ha : VB x y z u v w) (hb : VB p q r s t e) (f0 : mxI x p < mnI u s) (f1 : mxI y q < mnI v t) (f2 : mxI z r < mnI w e) (W : World) : Calls Try.prog 20 #[.agg #[.int .i64 x, .int .i64 y, .int .i64 z, .int .i64 u, .int .i64 v, .int .i64 w], .agg #[.int .i64 p, .int .i64 q, .int .i64 r, .int .i64 s, .int .i64 t, .int .i64 e]] W fun e' w' => e' = .returned (.tuple #[.agg #[.int .i64 (mxI x p), .int .i64 (mxI y q), .int .i64 (mxI z r), .int .i64 (mnI u s), .int .i64 (mnI v t), .int .i64 (mnI w e)], .int .i64 0]) ∧ Below W.heap.size W w' := by
  have g0 : PC.Ok (envX [x, y, z, u, v, w, p, q, r, s, t, e, i, j, k] []) ovF := (.cons' f0 (.cons' f1 (.cons' f2 .nil)))
  have g1 : PC.Ok (envX [x, y, z, u, v, w, p, q, r, s, t, e, i, j, k] []) ovA := (okAB_ok ha hb).app g0
  exact tree_fun (ρ := envX [x, y, z, u, v, w, p, q, r, s, t, e, i, j, k] []) .nil g1 wide bInt_tree (by kernel_rfl) rfl (u := .tuple #[.agg #[.int .i64 (mxI x p), .int .i64 (mxI y q), .int .i64 (mxI z r), .int .i64 (mnI u s), .int .i64 (mnI v t), .int .i64 (mnI w e)], .int .i64 0]) (All.ret rfl) W
theorem bOvl_is (x y z u v w p q r s t e i j k : Int) (ha : VB x y z u v w) (hb : VB p q r s t e) (f0 : mxI x p < mnI u s) (f1 : mxI y q < mnI v t) (f2 : mxI z r < mnI w e) (W : World) : Calls Try.prog 29 #[.agg #[.int .i64 x, .int .i64 y, .int .i64 z, .int .i64 u, .int .i64 v, .int .i64 w], .agg #[.int .i64 p, .int .i64 q, .int .i64 r, .int .i64 s, .int .i64 t, .int .i64 e]] W fun e' w' => e' = .returned (.bool true) ∧ Below W.heap.size W w' := by
  have g0 : PC.Ok (envX [x, y, z, u, v, w, p, q, r, s, t, e, i, j, k] []) ovF := (.cons' f0 (.cons' f1 (.cons' f2 .nil)))
  have g1 : PC.Ok (envX [x, y, z, u, v, w, p, q, r, s, t, e, i, j, k] []) ovA := (okAB_ok ha hb).app g0
  exact tree_fun (ρ := envX [x, y, z, u, v, w, p, q, r, s, t, e, i, j, k] []) .nil g1 wide bOvl_tree (by kernel_rfl) rfl (u := .bool true) (All.ret rfl) W
end Go.Proofs.Ytnciilkcdemnjaa
