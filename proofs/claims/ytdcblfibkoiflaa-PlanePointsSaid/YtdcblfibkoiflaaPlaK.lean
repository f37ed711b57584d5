/- The walks of PlaneNormals and PlanePoints. -/
import Derived.Test.YtdcblfibkoiflaaPlaF
import Derived.Test.YtdcblfibkoiflaaPlaJ
namespace Go.Proofs.Ytdcblfibkoiflaa
open Go.RowKit
def z4 : List SC := [.int .i64 (.lit 0), .int .i64 (.lit 0), .int .i64 (.lit 0), .int .i64 (.lit 0)]
def e0 : S1 := ⟨false, [.int .i64 (.lit 0)]⟩
def nC : Con := [(12, [], .one (.bool (.lit true))), (15, [.agg (iv 0 4)], i1 20), (15, [.agg (iv 4 4)], i1 21)]
def aG : Con := [(23, [.agg (iv 0 4)], .tup [⟨true, iv 22 4⟩, e0]), (26, [.agg (iv 0 4)], .agg (iv 22 4))]
def aX : Con := [(23, [.agg (iv 0 4)], .tup [⟨true, z4⟩, ⟨false, [.int .i64 (.at 20)]⟩])]
def bG : Con := [(23, [.agg (iv 4 4)], .tup [⟨true, iv 26 4⟩, e0]), (26, [.agg (iv 4 4)], .agg (iv 26 4))]
def bX : Con := [(23, [.agg (iv 4 4)], .tup [⟨true, z4⟩, ⟨false, [.int .i64 (.at 21)]⟩])]
def fa (b : Bool) : PC := [(.eq (.at 20) (.lit 0), b)]
def fb (b : Bool) : PC := [(.eq (.at 21) (.lit 0), b)]
theorem nmT1 : treeB Try.prog (aX ++ nC) (fa false) 300 20 5 [.agg (iv 0 4), .agg (iv 4 4)] = .ret (.one (.bool (.lit true))) := by kernel_rfl
theorem nmT2 : treeB Try.prog (aG ++ (bX ++ nC)) (fa true ++ fb false) 300 20 5 [.agg (iv 0 4), .agg (iv 4 4)] = .ret (.one (.bool (.lit true))) := by kernel_rfl
theorem nmT3 : treeB Try.prog (aG ++ (bG ++ nC)) (fa true ++ fb true) 300 20 5 [.agg (iv 0 4), .agg (iv 4 4)] = .ret (.one (.bool (.lit true))) := by kernel_rfl
section
variable {a b c d a2 b2 c2 d2 : Int}
theorem nC_ok (xs ys : List Int) : ConOk Try.prog (envX (a :: b :: c :: d :: a2 :: b2 :: c2 :: d2 :: xs) (chkH a b c d :: chkH a2 b2 c2 d2 :: ys)) nC :=
  .cons (fun _ W => awake_any W) (.cons (fun _ W => rCheckH_any a b c d W) (.cons (fun _ W => rCheckH_any a2 b2 c2 d2 W) .nil))
theorem aX_ok (h : ¬ chkH a b c d = 0) (xs ys : List Int) : ConOk Try.prog (envX (a :: b :: c :: d :: xs) (chkH a b c d :: ys)) aX := .cons (fun _ W => pNormal_bad h W) .nil
theorem bX_ok (h : ¬ chkH a2 b2 c2 d2 = 0) (e : Int) (xs ys : List Int) : ConOk Try.prog (envX (a :: b :: c :: d :: a2 :: b2 :: c2 :: d2 :: xs) (e :: chkH a2 b2 c2 d2 :: ys)) bX := .cons (fun _ W => pNormal_bad h W) .nil
theorem aG_ok (h : chkH a b c d = 0) (e f : Int) (xs ys : List Int) : ConOk Try.prog (envX (a :: b :: c :: d :: xs) (e :: f :: [a.tdiv (gH a b c), b.tdiv (gH a b c), c.tdiv (gH a b c), d / gH a b c] ++ ys)) aG := .cons (fun _ W => pNormal_ok h W) (.cons (fun _ W => rNormal_ok h W) .nil)
theorem bG_ok (h : chkH a2 b2 c2 d2 = 0) (e f n0 n1 n2 n3 : Int) (xs ys : List Int) : ConOk Try.prog (envX (a :: b :: c :: d :: a2 :: b2 :: c2 :: d2 :: xs) (e :: f :: n0 :: n1 :: n2 :: n3 :: [a2.tdiv (gH a2 b2 c2), b2.tdiv (gH a2 b2 c2), c2.tdiv (gH a2 b2 c2), d2 / gH a2 b2 c2] ++ ys)) bG := .cons (fun _ W => pNormal_ok h W) (.cons (fun _ W => rNormal_ok h W) .nil)
end
theorem normals_walk (a b c d a2 b2 c2 d2 : Int) (W : World) : Calls Try.prog 5 #[.agg #[.int .i64 a, .int .i64 b, .int .i64 c, .int .i64 d], .agg #[.int .i64 a2, .int .i64 b2, .int .i64 c2, .int .i64 d2]] W fun e w' => e = .returned (.bool true) ∧ Below W.heap.size W w' := by
  by_cases h1 : chkH a b c d = 0
  case neg => exact tree_law (ρ := envX [a, b, c, d, a2, b2, c2, d2] [chkH a b c d, chkH a2 b2 c2 d2]) (ConOk.app (aX_ok h1 [a2, b2, c2, d2] [chkH a2 b2 c2 d2]) (nC_ok [] [])) (pc := fa false) (.cons' h1 .nil) wide nmT1 (by kernel_rfl) rfl Good.yes W
  by_cases h2 : chkH a2 b2 c2 d2 = 0
  case neg =>
    exact tree_law (ρ := envX [a, b, c, d, a2, b2, c2, d2] [chkH a b c d, chkH a2 b2 c2 d2, a.tdiv (gH a b c), b.tdiv (gH a b c), c.tdiv (gH a b c), d / gH a b c]) (ConOk.app (aG_ok h1 _ _ [a2, b2, c2, d2] []) (ConOk.app (bX_ok h2 _ [] [a.tdiv (gH a b c), b.tdiv (gH a b c), c.tdiv (gH a b c), d / gH a b c]) (nC_ok [] [a.tdiv (gH a b c), b.tdiv (gH a b c), c.tdiv (gH a b c), d / gH a b c]))) (pc := fa true ++ fb false) (PC.Ok.app (.cons' h1 .nil) (.cons' h2 .nil)) wide nmT2 (by kernel_rfl) rfl Good.yes W
  exact tree_law (ρ := envX [a, b, c, d, a2, b2, c2, d2] [chkH a b c d, chkH a2 b2 c2 d2, a.tdiv (gH a b c), b.tdiv (gH a b c), c.tdiv (gH a b c), d / gH a b c, a2.tdiv (gH a2 b2 c2), b2.tdiv (gH a2 b2 c2), c2.tdiv (gH a2 b2 c2), d2 / gH a2 b2 c2]) (ConOk.app (aG_ok h1 _ _ [a2, b2, c2, d2] [a2.tdiv (gH a2 b2 c2), b2.tdiv (gH a2 b2 c2), c2.tdiv (gH a2 b2 c2), d2 / gH a2 b2 c2]) (ConOk.app (bG_ok h2 _ _ _ _ _ _ [] []) (nC_ok [] [a.tdiv (gH a b c), b.tdiv (gH a b c), c.tdiv (gH a b c), d / gH a b c, a2.tdiv (gH a2 b2 c2), b2.tdiv (gH a2 b2 c2), c2.tdiv (gH a2 b2 c2), d2 / gH a2 b2 c2]))) (pc := fa true ++ fb true) (PC.Ok.app (.cons' h1 .nil) (.cons' h2 .nil)) wide nmT3 (by kernel_rfl) rfl Good.yes W
end Go.Proofs.Ytdcblfibkoiflaa
