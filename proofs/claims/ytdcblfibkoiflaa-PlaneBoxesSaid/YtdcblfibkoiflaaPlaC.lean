/- The checks and the extremes of plane. -/
import Derived.Test.YtdcblfibkoiflaaPlaA
namespace Go.Proofs.Ytdcblfibkoiflaa
open Go.RowKit
def chkH (a b c d : Int) : Int := if a < -1000 ∨ 1000 < a ∨ b < -1000 ∨ 1000 < b ∨ c < -1000 ∨ 1000 < c ∨ d < -4000000000 ∨ 4000000000 < d then 6 else if a = 0 ∧ b = 0 ∧ c = 0 then 1 else 0
def chkB (x y z u v w : Int) : Int :=
  if x < -1000000 ∨ 1000000 < x ∨ y < -1000000 ∨ 1000000 < y ∨ z < -1000000 ∨ 1000000 < z ∨ u < -1000000 ∨ 1000000 < u ∨ v < -1000000 ∨ 1000000 < v ∨ w < -1000000 ∨ 1000000 < w then 6 else if u ≤ x ∨ v ≤ y ∨ w ≤ z then 1 else 0
def loE (a b c d x y z u v w : Int) : Int := 0 - d + mnI (a * x) (a * u) + mnI (b * y) (b * v) + mnI (c * z) (c * w)
def hiE (a b c d x y z u v w : Int) : Int := 0 - d + mxI (a * x) (a * u) + mxI (b * y) (b * v) + mxI (c * z) (c * w)
theorem chkH_ok {a b c d : Int} (h : chkH a b c d = 0) : (-1000 ≤ a ∧ a ≤ 1000) ∧ (-1000 ≤ b ∧ b ≤ 1000) ∧ (-1000 ≤ c ∧ c ≤ 1000) ∧ (-4000000000 ≤ d ∧ d ≤ 4000000000) ∧ ¬ (a = 0 ∧ b = 0 ∧ c = 0) := by
  unfold chkH at h
  split at h
  · cases h
  · split at h
    · cases h
    · omega
theorem chkB_ok {x y z u v w : Int} (h : chkB x y z u v w = 0) : (-1000000 ≤ x ∧ x < u ∧ u ≤ 1000000) ∧ (-1000000 ≤ y ∧ y < v ∧ v ≤ 1000000) ∧ (-1000000 ≤ z ∧ z < w ∧ w ≤ 1000000) := by
  unfold chkB at h
  split at h
  · cases h
  · split at h
    · cases h
    · omega
theorem pCheckH_tree : tree Try.prog [] [] 300 20 14 [.agg (iv 0 4)] = (.br (.lt (.at 0) (.lit (-1000)))
 (.ret (.one (.int .i64 (.lit (6)))))
 (.br (.lt (.lit (1000)) (.at 0))
 (.ret (.one (.int .i64 (.lit (6)))))
 (.br (.lt (.at 1) (.lit (-1000)))
 (.ret (.one (.int .i64 (.lit (6)))))
 (.br (.lt (.lit (1000)) (.at 1))
 (.ret (.one (.int .i64 (.lit (6)))))
 (.br (.lt (.at 2) (.lit (-1000)))
 (.ret (.one (.int .i64 (.lit (6)))))
 (.br (.lt (.lit (1000)) (.at 2))
 (.ret (.one (.int .i64 (.lit (6)))))
 (.br (.lt (.at 3) (.lit (-4000000000)))
 (.ret (.one (.int .i64 (.lit (6)))))
 (.br (.lt (.lit (4000000000)) (.at 3))
 (.ret (.one (.int .i64 (.lit (6)))))
 (.br (.eq (.at 0) (.lit (0)))
 (.br (.eq (.at 1) (.lit (0)))
 (.br (.eq (.at 2) (.lit (0)))
 (.ret (.one (.int .i64 (.lit (1)))))
 (.ret (.one (.int .i64 (.lit (0))))))
 (.ret (.one (.int .i64 (.lit (0))))))
 (.ret (.one (.int .i64 (.lit (0)))))))))))))) := by kernel_rfl
theorem pCheckH_any (a b c d : Int) (W : World) : Calls Try.prog 14 #[.agg #[.int .i64 a, .int .i64 b, .int .i64 c, .int .i64 d]] W fun e w' => e = .returned (.int .i64 (chkH a b c d)) ∧ Below W.heap.size W w' := by
  refine tree_fun (ρ := envX [a, b, c, d] []) .nil .nil wide pCheckH_tree (by kernel_rfl) rfl (u := .int .i64 (chkH a b c d)) ?_ W
  refine All.br' (fun (h1 : a < (-1000)) => ?_) (fun (h1 : (-1000) ≤ a) => ?_)
  · exact All.ret (congrArg (Value.int .i64) (show (6 : Int) = chkH a b c d by unfold chkH; (repeat' split) <;> omega))
  · refine All.br' (fun (h2 : (1000 : Int) < a) => ?_) (fun (h2 : a ≤ (1000 : Int)) => ?_)
    · exact All.ret (congrArg (Value.int .i64) (show (6 : Int) = chkH a b c d by unfold chkH; (repeat' split) <;> omega))
    · refine All.br' (fun (h3 : b < (-1000)) => ?_) (fun (h3 : (-1000) ≤ b) => ?_)
      · exact All.ret (congrArg (Value.int .i64) (show (6 : Int) = chkH a b c d by unfold chkH; (repeat' split) <;> omega))
      · refine All.br' (fun (h4 : (1000 : Int) < b) => ?_) (fun (h4 : b ≤ (1000 : Int)) => ?_)
        · exact All.ret (congrArg (Value.int .i64) (show (6 : Int) = chkH a b c d by unfold chkH; (repeat' split) <;> omega))
        · refine All.br' (fun (h5 : c < (-1000)) => ?_) (fun (h5 : (-1000) ≤ c) => ?_)
          · exact All.ret (congrArg (Value.int .i64) (show (6 : Int) = chkH a b c d by unfold chkH; (repeat' split) <;> omega))
          · refine All.br' (fun (h6 : (1000 : Int) < c) => ?_) (fun (h6 : c ≤ (1000 : Int)) => ?_)
            · exact All.ret (congrArg (Value.int .i64) (show (6 : Int) = chkH a b c d by unfold chkH; (repeat' split) <;> omega))
            · refine All.br' (fun (h7 : d < (-4000000000)) => ?_) (fun (h7 : (-4000000000) ≤ d) => ?_)
              · exact All.ret (congrArg (Value.int .i64) (show (6 : Int) = chkH a b c d by unfold chkH; (repeat' split) <;> omega))
              · refine All.br' (fun (h8 : (4000000000 : Int) < d) => ?_) (fun (h8 : d ≤ (4000000000 : Int)) => ?_)
                · exact All.ret (congrArg (Value.int .i64) (show (6 : Int) = chkH a b c d by unfold chkH; (repeat' split) <;> omega))
                · refine All.br' (fun (h9 : a = 0) => ?_) (fun (h9 : a ≠ 0) => ?_)
                  · refine All.br' (fun (h10 : b = 0) => ?_) (fun (h10 : b ≠ 0) => ?_)
                    · refine All.br' (fun (h11 : c = 0) => ?_) (fun (h11 : c ≠ 0) => ?_)
                      · exact All.ret (congrArg (Value.int .i64) (show (1 : Int) = chkH a b c d by unfold chkH; (repeat' split) <;> omega))
                      · exact All.ret (congrArg (Value.int .i64) (show (0 : Int) = chkH a b c d by unfold chkH; (repeat' split) <;> omega))
                    · exact All.ret (congrArg (Value.int .i64) (show (0 : Int) = chkH a b c d by unfold chkH; (repeat' split) <;> omega))
                  · exact All.ret (congrArg (Value.int .i64) (show (0 : Int) = chkH a b c d by unfold chkH; (repeat' split) <;> omega))
theorem rCheckH_tree : tree Try.prog [] [] 300 20 15 [.agg (iv 0 4)] = (.br (.le (.lit (-1000)) (.at 0))
 (.br (.le (.at 0) (.lit (1000)))
 (.br (.le (.lit (-1000)) (.at 1))
 (.br (.le (.at 1) (.lit (1000)))
 (.br (.le (.lit (-1000)) (.at 2))
 (.br (.le (.at 2) (.lit (1000)))
 (.br (.lt (.at 3) (.lit (-4000000000)))
 (.ret (.one (.int .i64 (.lit (6)))))
 (.br (.lt (.lit (4000000000)) (.at 3))
 (.ret (.one (.int .i64 (.lit (6)))))
 (.br (.eq (.at 0) (.lit (0)))
 (.br (.eq (.at 1) (.lit (0)))
 (.br (.eq (.at 2) (.lit (0)))
 (.ret (.one (.int .i64 (.lit (1)))))
 (.ret (.one (.int .i64 (.lit (0))))))
 (.ret (.one (.int .i64 (.lit (0))))))
 (.ret (.one (.int .i64 (.lit (0))))))))
 (.ret (.one (.int .i64 (.lit (6))))))
 (.ret (.one (.int .i64 (.lit (6))))))
 (.ret (.one (.int .i64 (.lit (6))))))
 (.ret (.one (.int .i64 (.lit (6))))))
 (.ret (.one (.int .i64 (.lit (6))))))
 (.ret (.one (.int .i64 (.lit (6)))))) := by kernel_rfl
theorem rCheckH_any (a b c d : Int) (W : World) : Calls Try.prog 15 #[.agg #[.int .i64 a, .int .i64 b, .int .i64 c, .int .i64 d]] W fun e w' => e = .returned (.int .i64 (chkH a b c d)) ∧ Below W.heap.size W w' := by
  refine tree_fun (ρ := envX [a, b, c, d] []) .nil .nil wide rCheckH_tree (by kernel_rfl) rfl (u := .int .i64 (chkH a b c d)) ?_ W
  refine All.br' (fun (h1 : (-1000 : Int) ≤ a) => ?_) (fun (h1 : a < (-1000 : Int)) => ?_)
  · refine All.br' (fun (h2 : a ≤ 1000) => ?_) (fun (h2 : 1000 < a) => ?_)
    · refine All.br' (fun (h3 : (-1000 : Int) ≤ b) => ?_) (fun (h3 : b < (-1000 : Int)) => ?_)
      · refine All.br' (fun (h4 : b ≤ 1000) => ?_) (fun (h4 : 1000 < b) => ?_)
        · refine All.br' (fun (h5 : (-1000 : Int) ≤ c) => ?_) (fun (h5 : c < (-1000 : Int)) => ?_)
          · refine All.br' (fun (h6 : c ≤ 1000) => ?_) (fun (h6 : 1000 < c) => ?_)
            · refine All.br' (fun (h7 : d < (-4000000000)) => ?_) (fun (h7 : (-4000000000) ≤ d) => ?_)
              · exact All.ret (congrArg (Value.int .i64) (show (6 : Int) = chkH a b c d by unfold chkH; (repeat' split) <;> omega))
              · refine All.br' (fun (h8 : (4000000000 : Int) < d) => ?_) (fun (h8 : d ≤ (4000000000 : Int)) => ?_)
                · exact All.ret (congrArg (Value.int .i64) (show (6 : Int) = chkH a b c d by unfold chkH; (repeat' split) <;> omega))
                · refine All.br' (fun (h9 : a = 0) => ?_) (fun (h9 : a ≠ 0) => ?_)
                  · refine All.br' (fun (h10 : b = 0) => ?_) (fun (h10 : b ≠ 0) => ?_)
                    · refine All.br' (fun (h11 : c = 0) => ?_) (fun (h11 : c ≠ 0) => ?_)
                      · exact All.ret (congrArg (Value.int .i64) (show (1 : Int) = chkH a b c d by unfold chkH; (repeat' split) <;> omega))
                      · exact All.ret (congrArg (Value.int .i64) (show (0 : Int) = chkH a b c d by unfold chkH; (repeat' split) <;> omega))
                    · exact All.ret (congrArg (Value.int .i64) (show (0 : Int) = chkH a b c d by unfold chkH; (repeat' split) <;> omega))
                  · exact All.ret (congrArg (Value.int .i64) (show (0 : Int) = chkH a b c d by unfold chkH; (repeat' split) <;> omega))
            · exact All.ret (congrArg (Value.int .i64) (show (6 : Int) = chkH a b c d by unfold chkH; (repeat' split) <;> omega))
          · exact All.ret (congrArg (Value.int .i64) (show (6 : Int) = chkH a b c d by unfold chkH; (repeat' split) <;> omega))
        · exact All.ret (congrArg (Value.int .i64) (show (6 : Int) = chkH a b c d by unfold chkH; (repeat' split) <;> omega))
      · exact All.ret (congrArg (Value.int .i64) (show (6 : Int) = chkH a b c d by unfold chkH; (repeat' split) <;> omega))
    · exact All.ret (congrArg (Value.int .i64) (show (6 : Int) = chkH a b c d by unfold chkH; (repeat' split) <;> omega))
  · exact All.ret (congrArg (Value.int .i64) (show (6 : Int) = chkH a b c d by unfold chkH; (repeat' split) <;> omega))
theorem bCheckB_tree : tree Try.prog [] [] 300 20 57 [.agg (iv 0 6)] = (.br (.lt (.mn (.at 0) (.at 3)) (.lit (-1000000)))
 (.ret (.one (.int .i64 (.lit (6)))))
 (.br (.lt (.lit (1000000)) (.mx (.at 0) (.at 3)))
 (.ret (.one (.int .i64 (.lit (6)))))
 (.br (.lt (.mn (.at 1) (.at 4)) (.lit (-1000000)))
 (.ret (.one (.int .i64 (.lit (6)))))
 (.br (.lt (.lit (1000000)) (.mx (.at 1) (.at 4)))
 (.ret (.one (.int .i64 (.lit (6)))))
 (.br (.lt (.mn (.at 2) (.at 5)) (.lit (-1000000)))
 (.ret (.one (.int .i64 (.lit (6)))))
 (.br (.lt (.lit (1000000)) (.mx (.at 2) (.at 5)))
 (.ret (.one (.int .i64 (.lit (6)))))
 (.br (.le (.at 3) (.at 0))
 (.ret (.one (.int .i64 (.lit (1)))))
 (.br (.le (.at 4) (.at 1))
 (.ret (.one (.int .i64 (.lit (1)))))
 (.br (.le (.at 5) (.at 2))
 (.ret (.one (.int .i64 (.lit (1)))))
 (.ret (.one (.int .i64 (.lit (0)))))))))))))) := by kernel_rfl
theorem bCheckB_any (x y z u v w : Int) (W : World) : Calls Try.prog 57 #[.agg #[.int .i64 x, .int .i64 y, .int .i64 z, .int .i64 u, .int .i64 v, .int .i64 w]] W fun e w' => e = .returned (.int .i64 (chkB x y z u v w)) ∧ Below W.heap.size W w' := by
  refine tree_fun (ρ := envX [x, y, z, u, v, w] []) .nil .nil wide bCheckB_tree (by kernel_rfl) rfl (u := .int .i64 (chkB x y z u v w)) ?_ W
  have m1 := mnI_spec x u
  have m2 := mnI_spec y v
  have m3 := mnI_spec z w
  have m4 := mxI_spec x u
  have m5 := mxI_spec y v
  have m6 := mxI_spec z w
  refine All.br' (fun (h1 : (mnI x u) < (-1000000)) => ?_) (fun (h1 : (-1000000) ≤ (mnI x u)) => ?_)
  · exact All.ret (congrArg (Value.int .i64) (show (6 : Int) = chkB x y z u v w by unfold chkB; (repeat' split) <;> omega))
  · refine All.br' (fun (h2 : (1000000 : Int) < (mxI x u)) => ?_) (fun (h2 : (mxI x u) ≤ (1000000 : Int)) => ?_)
    · exact All.ret (congrArg (Value.int .i64) (show (6 : Int) = chkB x y z u v w by unfold chkB; (repeat' split) <;> omega))
    · refine All.br' (fun (h3 : (mnI y v) < (-1000000)) => ?_) (fun (h3 : (-1000000) ≤ (mnI y v)) => ?_)
      · exact All.ret (congrArg (Value.int .i64) (show (6 : Int) = chkB x y z u v w by unfold chkB; (repeat' split) <;> omega))
      · refine All.br' (fun (h4 : (1000000 : Int) < (mxI y v)) => ?_) (fun (h4 : (mxI y v) ≤ (1000000 : Int)) => ?_)
        · exact All.ret (congrArg (Value.int .i64) (show (6 : Int) = chkB x y z u v w by unfold chkB; (repeat' split) <;> omega))
        · refine All.br' (fun (h5 : (mnI z w) < (-1000000)) => ?_) (fun (h5 : (-1000000) ≤ (mnI z w)) => ?_)
          · exact All.ret (congrArg (Value.int .i64) (show (6 : Int) = chkB x y z u v w by unfold chkB; (repeat' split) <;> omega))
          · refine All.br' (fun (h6 : (1000000 : Int) < (mxI z w)) => ?_) (fun (h6 : (mxI z w) ≤ (1000000 : Int)) => ?_)
            · exact All.ret (congrArg (Value.int .i64) (show (6 : Int) = chkB x y z u v w by unfold chkB; (repeat' split) <;> omega))
            · refine All.br' (fun (h7 : u ≤ x) => ?_) (fun (h7 : x < u) => ?_)
              · exact All.ret (congrArg (Value.int .i64) (show (1 : Int) = chkB x y z u v w by unfold chkB; (repeat' split) <;> omega))
              · refine All.br' (fun (h8 : v ≤ y) => ?_) (fun (h8 : y < v) => ?_)
                · exact All.ret (congrArg (Value.int .i64) (show (1 : Int) = chkB x y z u v w by unfold chkB; (repeat' split) <;> omega))
                · refine All.br' (fun (h9 : w ≤ z) => ?_) (fun (h9 : z < w) => ?_)
                  · exact All.ret (congrArg (Value.int .i64) (show (1 : Int) = chkB x y z u v w by unfold chkB; (repeat' split) <;> omega))
                  · exact All.ret (congrArg (Value.int .i64) (show (0 : Int) = chkB x y z u v w by unfold chkB; (repeat' split) <;> omega))
theorem rCheckB_tree : tree Try.prog [] [] 300 20 40 [.agg (iv 0 6)] = (.br (.lt (.at 0) (.lit (-1000000)))
 (.ret (.one (.int .i64 (.lit (6)))))
 (.br (.lt (.lit (1000000)) (.at 0))
 (.ret (.one (.int .i64 (.lit (6)))))
 (.br (.lt (.at 3) (.lit (-1000000)))
 (.ret (.one (.int .i64 (.lit (6)))))
 (.br (.lt (.lit (1000000)) (.at 3))
 (.ret (.one (.int .i64 (.lit (6)))))
 (.br (.lt (.at 1) (.lit (-1000000)))
 (.ret (.one (.int .i64 (.lit (6)))))
 (.br (.lt (.lit (1000000)) (.at 1))
 (.ret (.one (.int .i64 (.lit (6)))))
 (.br (.lt (.at 4) (.lit (-1000000)))
 (.ret (.one (.int .i64 (.lit (6)))))
 (.br (.lt (.lit (1000000)) (.at 4))
 (.ret (.one (.int .i64 (.lit (6)))))
 (.br (.lt (.at 2) (.lit (-1000000)))
 (.ret (.one (.int .i64 (.lit (6)))))
 (.br (.lt (.lit (1000000)) (.at 2))
 (.ret (.one (.int .i64 (.lit (6)))))
 (.br (.lt (.at 5) (.lit (-1000000)))
 (.ret (.one (.int .i64 (.lit (6)))))
 (.br (.lt (.lit (1000000)) (.at 5))
 (.ret (.one (.int .i64 (.lit (6)))))
 (.br (.le (.at 3) (.at 0))
 (.ret (.one (.int .i64 (.lit (1)))))
 (.br (.le (.at 4) (.at 1))
 (.ret (.one (.int .i64 (.lit (1)))))
 (.br (.le (.at 5) (.at 2))
 (.ret (.one (.int .i64 (.lit (1)))))
 (.ret (.one (.int .i64 (.lit (0)))))))))))))))))))) := by kernel_rfl
theorem rCheckB_any (x y z u v w : Int) (W : World) : Calls Try.prog 40 #[.agg #[.int .i64 x, .int .i64 y, .int .i64 z, .int .i64 u, .int .i64 v, .int .i64 w]] W fun e w' => e = .returned (.int .i64 (chkB x y z u v w)) ∧ Below W.heap.size W w' := by
  refine tree_fun (ρ := envX [x, y, z, u, v, w] []) .nil .nil wide rCheckB_tree (by kernel_rfl) rfl (u := .int .i64 (chkB x y z u v w)) ?_ W
  refine All.br' (fun (h1 : x < (-1000000)) => ?_) (fun (h1 : (-1000000) ≤ x) => ?_)
  · exact All.ret (congrArg (Value.int .i64) (show (6 : Int) = chkB x y z u v w by unfold chkB; (repeat' split) <;> omega))
  · refine All.br' (fun (h2 : (1000000 : Int) < x) => ?_) (fun (h2 : x ≤ (1000000 : Int)) => ?_)
    · exact All.ret (congrArg (Value.int .i64) (show (6 : Int) = chkB x y z u v w by unfold chkB; (repeat' split) <;> omega))
    · refine All.br' (fun (h3 : u < (-1000000)) => ?_) (fun (h3 : (-1000000) ≤ u) => ?_)
      · exact All.ret (congrArg (Value.int .i64) (show (6 : Int) = chkB x y z u v w by unfold chkB; (repeat' split) <;> omega))
      · refine All.br' (fun (h4 : (1000000 : Int) < u) => ?_) (fun (h4 : u ≤ (1000000 : Int)) => ?_)
        · exact All.ret (congrArg (Value.int .i64) (show (6 : Int) = chkB x y z u v w by unfold chkB; (repeat' split) <;> omega))
        · refine All.br' (fun (h5 : y < (-1000000)) => ?_) (fun (h5 : (-1000000) ≤ y) => ?_)
          · exact All.ret (congrArg (Value.int .i64) (show (6 : Int) = chkB x y z u v w by unfold chkB; (repeat' split) <;> omega))
          · refine All.br' (fun (h6 : (1000000 : Int) < y) => ?_) (fun (h6 : y ≤ (1000000 : Int)) => ?_)
            · exact All.ret (congrArg (Value.int .i64) (show (6 : Int) = chkB x y z u v w by unfold chkB; (repeat' split) <;> omega))
            · refine All.br' (fun (h7 : v < (-1000000)) => ?_) (fun (h7 : (-1000000) ≤ v) => ?_)
              · exact All.ret (congrArg (Value.int .i64) (show (6 : Int) = chkB x y z u v w by unfold chkB; (repeat' split) <;> omega))
              · refine All.br' (fun (h8 : (1000000 : Int) < v) => ?_) (fun (h8 : v ≤ (1000000 : Int)) => ?_)
                · exact All.ret (congrArg (Value.int .i64) (show (6 : Int) = chkB x y z u v w by unfold chkB; (repeat' split) <;> omega))
                · refine All.br' (fun (h9 : z < (-1000000)) => ?_) (fun (h9 : (-1000000) ≤ z) => ?_)
                  · exact All.ret (congrArg (Value.int .i64) (show (6 : Int) = chkB x y z u v w by unfold chkB; (repeat' split) <;> omega))
                  · refine All.br' (fun (h10 : (1000000 : Int) < z) => ?_) (fun (h10 : z ≤ (1000000 : Int)) => ?_)
                    · exact All.ret (congrArg (Value.int .i64) (show (6 : Int) = chkB x y z u v w by unfold chkB; (repeat' split) <;> omega))
                    · refine All.br' (fun (h11 : w < (-1000000)) => ?_) (fun (h11 : (-1000000) ≤ w) => ?_)
                      · exact All.ret (congrArg (Value.int .i64) (show (6 : Int) = chkB x y z u v w by unfold chkB; (repeat' split) <;> omega))
                      · refine All.br' (fun (h12 : (1000000 : Int) < w) => ?_) (fun (h12 : w ≤ (1000000 : Int)) => ?_)
                        · exact All.ret (congrArg (Value.int .i64) (show (6 : Int) = chkB x y z u v w by unfold chkB; (repeat' split) <;> omega))
                        · refine All.br' (fun (h13 : u ≤ x) => ?_) (fun (h13 : x < u) => ?_)
                          · exact All.ret (congrArg (Value.int .i64) (show (1 : Int) = chkB x y z u v w by unfold chkB; (repeat' split) <;> omega))
                          · refine All.br' (fun (h14 : v ≤ y) => ?_) (fun (h14 : y < v) => ?_)
                            · exact All.ret (congrArg (Value.int .i64) (show (1 : Int) = chkB x y z u v w by unfold chkB; (repeat' split) <;> omega))
                            · refine All.br' (fun (h15 : w ≤ z) => ?_) (fun (h15 : z < w) => ?_)
                              · exact All.ret (congrArg (Value.int .i64) (show (1 : Int) = chkB x y z u v w by unfold chkB; (repeat' split) <;> omega))
                              · exact All.ret (congrArg (Value.int .i64) (show (0 : Int) = chkB x y z u v w by unfold chkB; (repeat' split) <;> omega))
def rH : PC := rg 0 (-1000) 1000 ++ rg 1 (-1000) 1000 ++ rg 2 (-1000) 1000 ++ rg 3 (-4000000000) 4000000000
def rB : PC := rg 4 (-1000000) 1000000 ++ rg 5 (-1000000) 1000000 ++ rg 6 (-1000000) 1000000 ++ rg 7 (-1000000) 1000000 ++ rg 8 (-1000000) 1000000 ++ rg 9 (-1000000) 1000000 ++ [(.lt (.at 4) (.at 7), true), (.lt (.at 5) (.at 8), true), (.lt (.at 6) (.at 9), true)]
theorem rH_ok {a b c d : Int} {xs ys : List Int} (h : chkH a b c d = 0) : PC.Ok (envX (a :: b :: c :: d :: xs) ys) rH := by
  obtain ⟨⟨h1, h2⟩, ⟨h3, h4⟩, ⟨h5, h6⟩, ⟨h7, h8⟩, _⟩ := chkH_ok h
  exact (((rg_ok h1 h2).app (rg_ok h3 h4)).app (rg_ok h5 h6)).app (rg_ok h7 h8)
theorem rB_ok {a b c d x y z u v w : Int} {xs ys : List Int} (h : chkB x y z u v w = 0) : PC.Ok (envX (a :: b :: c :: d :: x :: y :: z :: u :: v :: w :: xs) ys) rB := by
  obtain ⟨⟨h1, h2, h3⟩, ⟨h4, h5, h6⟩, h7, h8, h9⟩ := chkB_ok h
  refine ((((((rg_ok h1 ?_).app (rg_ok h4 ?_)).app (rg_ok h7 ?_)).app (rg_ok ?_ h3)).app (rg_ok ?_ h6)).app (rg_ok ?_ h9)).app (.cons' h2 (.cons' h5 (.cons' h8 .nil)))
  · show x ≤ _; omega
  · show y ≤ _; omega
  · show z ≤ _; omega
  · show _ ≤ u; omega
  · show _ ≤ v; omega
  · show _ ≤ w; omega
theorem pExtremes_tree : tree Try.prog [] (rH ++ rB) 300 20 39 [.agg (iv 0 4), .agg (iv 4 6)] = (.ret (.tup [⟨false, [(.int .i64 (.add (.add (.add (.sub (.lit (0)) (.at 3)) (.mn (.mul (.at 0) (.at 4)) (.mul (.at 0) (.at 7)))) (.mn (.mul (.at 1) (.at 5)) (.mul (.at 1) (.at 8)))) (.mn (.mul (.at 2) (.at 6)) (.mul (.at 2) (.at 9)))))]⟩, ⟨false, [(.int .i64 (.add (.add (.add (.sub (.lit (0)) (.at 3)) (.mx (.mul (.at 0) (.at 4)) (.mul (.at 0) (.at 7)))) (.mx (.mul (.at 1) (.at 5)) (.mul (.at 1) (.at 8)))) (.mx (.mul (.at 2) (.at 6)) (.mul (.at 2) (.at 9)))))]⟩])) := by kernel_rfl
theorem pExtremes_any {a b c d x y z u v w : Int} (h1 : chkH a b c d = 0) (h2 : chkB x y z u v w = 0) (W : World) : Calls Try.prog 39 #[.agg #[.int .i64 a, .int .i64 b, .int .i64 c, .int .i64 d], .agg #[.int .i64 x, .int .i64 y, .int .i64 z, .int .i64 u, .int .i64 v, .int .i64 w]] W fun e w' =>
    e = .returned (.tuple #[.int .i64 (loE a b c d x y z u v w), .int .i64 (hiE a b c d x y z u v w)]) ∧ Below W.heap.size W w' :=
  tree_fun (ρ := envX [a, b, c, d, x, y, z, u, v, w] []) .nil ((rH_ok h1).app (rB_ok h2)) wide pExtremes_tree (by kernel_rfl) rfl (All.ret rfl) W
end Go.Proofs.Ytdcblfibkoiflaa
