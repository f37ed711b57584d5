/- The walk of FractionOrder. -/
import Derived.Test.YtinnlahmlepeeaaDoorFraOr
namespace Go.Proofs.YtinnlahmlepeeaaDoor
open Go.RowKit
theorem wideF : Tryd.prog.follows .mixedOrders = true := by kernel_rfl
theorem conAppW {P : Program} {ρ : EnvS} {W0 : World} {x y : Con} (hx : ConOkW P ρ W0 x) (hy : ConOkW P ρ W0 y) : ConOkW P ρ W0 (x ++ y) := by
  intro f args v h
  rcases List.mem_append.1 h with h | h
  · exact hx f args v h
  · exact hy f args v h
def li (n : Int) : SV := .one (.int .i64 (.lit n))
def aw4 : Con := [(13, [], .one (.bool (.lit true)))]
def vlC (i : Nat) (b : Bool) : Con := [(14, [.agg (iv i 2)], .one (.bool (.lit b)))]
def cmpC (i j : Nat) (v : SV) : Con := [(27, [.agg (iv i 2), .agg (iv j 2)], v)]
def addC (i j n : Nat) : Con := [(16, [.agg (iv i 2), .agg (iv j 2)], .tup [⟨true, iv n 2⟩, ⟨false, [.int .i64 (.at (n + 2))]⟩])]
def flrC (i n : Nat) : Con := [(29, [.agg (iv i 2)], i1 n)]
def rndC (i n : Nat) : Con := [(30, [.agg (iv i 2)], i1 n)]
def oC (X Y : Int) : Con := vlC 0 true ++ (vlC 2 true ++ (vlC 4 true ++ (cmpC 0 2 (li X) ++ (cmpC 2 0 (li Y) ++ (cmpC 2 4 (i1 21) ++ (cmpC 0 4 (i1 23) ++ (addC 0 4 24 ++ (addC 2 4 27 ++ (cmpC 24 27 (i1 30) ++ (flrC 0 31 ++ (rndC 0 32 ++ (flrC 2 33 ++ (rndC 2 34 ++ aw4)))))))))))))
def sameF : PC := [(.eq (.at 0) (.at 2), true), (.eq (.at 1) (.at 3), true)]
def nq1 : PC := [(.eq (.at 0) (.at 2), false)]
def nq2 : PC := [(.eq (.at 0) (.at 2), true), (.eq (.at 1) (.at 3), false)]
def yP : PC := [(.le (.at 21) (.lit 0), false)]
def yN : PC := [(.le (.at 21) (.lit 0), true), (.lt (.lit 0) (.at 23), false)]
def x1 : PC := [(.eq (.at 26) (.lit 0), false)]
def x2 : PC := [(.eq (.at 26) (.lit 0), true), (.eq (.at 29) (.lit 0), false)]
def x3 (X : Int) : PC := [(.eq (.at 26) (.lit 0), true), (.eq (.at 29) (.lit 0), true), (.eq (.at 30) (.lit X), true)]
def m1 : PC := [(.eq (.at 32) (.at 31), true)]
def m2 : PC := [(.eq (.at 32) (.add (.at 31) (.lit 1)), true)]
def r31 : PC := rg 31 (-1000000000000000000) 1000000000000000000
def ordF : PC := [(.le (.at 31) (.at 33), true), (.le (.at 32) (.at 34), true)]
theorem cbO : callable Tryd.prog 10 = true := by kernel_rfl
theorem orV1 : treeB Tryd.prog (vlC 0 false ++ aw4) [] 300 20 10 [.agg (iv 0 2), .agg (iv 2 2), .agg (iv 4 2)] = .ret (.one (.bool (.lit true))) := by kernel_rfl
theorem orV2 : treeB Tryd.prog (vlC 0 true ++ (vlC 2 false ++ aw4)) [] 300 20 10 [.agg (iv 0 2), .agg (iv 2 2), .agg (iv 4 2)] = .ret (.one (.bool (.lit true))) := by kernel_rfl
theorem orV3 : treeB Tryd.prog (vlC 0 true ++ (vlC 2 true ++ (vlC 4 false ++ aw4))) [] 300 20 10 [.agg (iv 0 2), .agg (iv 2 2), .agg (iv 4 2)] = .ret (.one (.bool (.lit true))) := by kernel_rfl
theorem orLnq1yPx1m1 : treeB Tryd.prog (oC (-1) (1)) (nq1 ++ (yP ++ (x1 ++ (m1 ++ (r31 ++ ordF))))) 300 20 10 [.agg (iv 0 2), .agg (iv 2 2), .agg (iv 4 2)] = .ret (.one (.bool (.lit true))) := by kernel_rfl
theorem orLnq1yPx1m2 : treeB Tryd.prog (oC (-1) (1)) (nq1 ++ (yP ++ (x1 ++ (m2 ++ (r31 ++ ordF))))) 300 20 10 [.agg (iv 0 2), .agg (iv 2 2), .agg (iv 4 2)] = .ret (.one (.bool (.lit true))) := by kernel_rfl
theorem orLnq1yPx2m1 : treeB Tryd.prog (oC (-1) (1)) (nq1 ++ (yP ++ (x2 ++ (m1 ++ (r31 ++ ordF))))) 300 20 10 [.agg (iv 0 2), .agg (iv 2 2), .agg (iv 4 2)] = .ret (.one (.bool (.lit true))) := by kernel_rfl
theorem orLnq1yPx2m2 : treeB Tryd.prog (oC (-1) (1)) (nq1 ++ (yP ++ (x2 ++ (m2 ++ (r31 ++ ordF))))) 300 20 10 [.agg (iv 0 2), .agg (iv 2 2), .agg (iv 4 2)] = .ret (.one (.bool (.lit true))) := by kernel_rfl
theorem orLnq1yPx3m1 : treeB Tryd.prog (oC (-1) (1)) (nq1 ++ (yP ++ (x3 (-1) ++ (m1 ++ (r31 ++ ordF))))) 300 20 10 [.agg (iv 0 2), .agg (iv 2 2), .agg (iv 4 2)] = .ret (.one (.bool (.lit true))) := by kernel_rfl
theorem orLnq1yPx3m2 : treeB Tryd.prog (oC (-1) (1)) (nq1 ++ (yP ++ (x3 (-1) ++ (m2 ++ (r31 ++ ordF))))) 300 20 10 [.agg (iv 0 2), .agg (iv 2 2), .agg (iv 4 2)] = .ret (.one (.bool (.lit true))) := by kernel_rfl
theorem orLnq1yNx1m1 : treeB Tryd.prog (oC (-1) (1)) (nq1 ++ (yN ++ (x1 ++ (m1 ++ (r31 ++ ordF))))) 300 20 10 [.agg (iv 0 2), .agg (iv 2 2), .agg (iv 4 2)] = .ret (.one (.bool (.lit true))) := by kernel_rfl
theorem orLnq1yNx1m2 : treeB Tryd.prog (oC (-1) (1)) (nq1 ++ (yN ++ (x1 ++ (m2 ++ (r31 ++ ordF))))) 300 20 10 [.agg (iv 0 2), .agg (iv 2 2), .agg (iv 4 2)] = .ret (.one (.bool (.lit true))) := by kernel_rfl
theorem orLnq1yNx2m1 : treeB Tryd.prog (oC (-1) (1)) (nq1 ++ (yN ++ (x2 ++ (m1 ++ (r31 ++ ordF))))) 300 20 10 [.agg (iv 0 2), .agg (iv 2 2), .agg (iv 4 2)] = .ret (.one (.bool (.lit true))) := by kernel_rfl
theorem orLnq1yNx2m2 : treeB Tryd.prog (oC (-1) (1)) (nq1 ++ (yN ++ (x2 ++ (m2 ++ (r31 ++ ordF))))) 300 20 10 [.agg (iv 0 2), .agg (iv 2 2), .agg (iv 4 2)] = .ret (.one (.bool (.lit true))) := by kernel_rfl
theorem orLnq1yNx3m1 : treeB Tryd.prog (oC (-1) (1)) (nq1 ++ (yN ++ (x3 (-1) ++ (m1 ++ (r31 ++ ordF))))) 300 20 10 [.agg (iv 0 2), .agg (iv 2 2), .agg (iv 4 2)] = .ret (.one (.bool (.lit true))) := by kernel_rfl
theorem orLnq1yNx3m2 : treeB Tryd.prog (oC (-1) (1)) (nq1 ++ (yN ++ (x3 (-1) ++ (m2 ++ (r31 ++ ordF))))) 300 20 10 [.agg (iv 0 2), .agg (iv 2 2), .agg (iv 4 2)] = .ret (.one (.bool (.lit true))) := by kernel_rfl
theorem orLnq2yPx1m1 : treeB Tryd.prog (oC (-1) (1)) (nq2 ++ (yP ++ (x1 ++ (m1 ++ (r31 ++ ordF))))) 300 20 10 [.agg (iv 0 2), .agg (iv 2 2), .agg (iv 4 2)] = .ret (.one (.bool (.lit true))) := by kernel_rfl
theorem orLnq2yPx1m2 : treeB Tryd.prog (oC (-1) (1)) (nq2 ++ (yP ++ (x1 ++ (m2 ++ (r31 ++ ordF))))) 300 20 10 [.agg (iv 0 2), .agg (iv 2 2), .agg (iv 4 2)] = .ret (.one (.bool (.lit true))) := by kernel_rfl
theorem orLnq2yPx2m1 : treeB Tryd.prog (oC (-1) (1)) (nq2 ++ (yP ++ (x2 ++ (m1 ++ (r31 ++ ordF))))) 300 20 10 [.agg (iv 0 2), .agg (iv 2 2), .agg (iv 4 2)] = .ret (.one (.bool (.lit true))) := by kernel_rfl
theorem orLnq2yPx2m2 : treeB Tryd.prog (oC (-1) (1)) (nq2 ++ (yP ++ (x2 ++ (m2 ++ (r31 ++ ordF))))) 300 20 10 [.agg (iv 0 2), .agg (iv 2 2), .agg (iv 4 2)] = .ret (.one (.bool (.lit true))) := by kernel_rfl
theorem orLnq2yPx3m1 : treeB Tryd.prog (oC (-1) (1)) (nq2 ++ (yP ++ (x3 (-1) ++ (m1 ++ (r31 ++ ordF))))) 300 20 10 [.agg (iv 0 2), .agg (iv 2 2), .agg (iv 4 2)] = .ret (.one (.bool (.lit true))) := by kernel_rfl
theorem orLnq2yPx3m2 : treeB Tryd.prog (oC (-1) (1)) (nq2 ++ (yP ++ (x3 (-1) ++ (m2 ++ (r31 ++ ordF))))) 300 20 10 [.agg (iv 0 2), .agg (iv 2 2), .agg (iv 4 2)] = .ret (.one (.bool (.lit true))) := by kernel_rfl
theorem orLnq2yNx1m1 : treeB Tryd.prog (oC (-1) (1)) (nq2 ++ (yN ++ (x1 ++ (m1 ++ (r31 ++ ordF))))) 300 20 10 [.agg (iv 0 2), .agg (iv 2 2), .agg (iv 4 2)] = .ret (.one (.bool (.lit true))) := by kernel_rfl
theorem orLnq2yNx1m2 : treeB Tryd.prog (oC (-1) (1)) (nq2 ++ (yN ++ (x1 ++ (m2 ++ (r31 ++ ordF))))) 300 20 10 [.agg (iv 0 2), .agg (iv 2 2), .agg (iv 4 2)] = .ret (.one (.bool (.lit true))) := by kernel_rfl
theorem orLnq2yNx2m1 : treeB Tryd.prog (oC (-1) (1)) (nq2 ++ (yN ++ (x2 ++ (m1 ++ (r31 ++ ordF))))) 300 20 10 [.agg (iv 0 2), .agg (iv 2 2), .agg (iv 4 2)] = .ret (.one (.bool (.lit true))) := by kernel_rfl
theorem orLnq2yNx2m2 : treeB Tryd.prog (oC (-1) (1)) (nq2 ++ (yN ++ (x2 ++ (m2 ++ (r31 ++ ordF))))) 300 20 10 [.agg (iv 0 2), .agg (iv 2 2), .agg (iv 4 2)] = .ret (.one (.bool (.lit true))) := by kernel_rfl
theorem orLnq2yNx3m1 : treeB Tryd.prog (oC (-1) (1)) (nq2 ++ (yN ++ (x3 (-1) ++ (m1 ++ (r31 ++ ordF))))) 300 20 10 [.agg (iv 0 2), .agg (iv 2 2), .agg (iv 4 2)] = .ret (.one (.bool (.lit true))) := by kernel_rfl
theorem orLnq2yNx3m2 : treeB Tryd.prog (oC (-1) (1)) (nq2 ++ (yN ++ (x3 (-1) ++ (m2 ++ (r31 ++ ordF))))) 300 20 10 [.agg (iv 0 2), .agg (iv 2 2), .agg (iv 4 2)] = .ret (.one (.bool (.lit true))) := by kernel_rfl
theorem orEsameFyPx1m1 : treeB Tryd.prog (oC (0) (0)) (sameF ++ (yP ++ (x1 ++ (m1 ++ (r31 ++ ordF))))) 300 20 10 [.agg (iv 0 2), .agg (iv 2 2), .agg (iv 4 2)] = .ret (.one (.bool (.lit true))) := by kernel_rfl
theorem orEsameFyPx1m2 : treeB Tryd.prog (oC (0) (0)) (sameF ++ (yP ++ (x1 ++ (m2 ++ (r31 ++ ordF))))) 300 20 10 [.agg (iv 0 2), .agg (iv 2 2), .agg (iv 4 2)] = .ret (.one (.bool (.lit true))) := by kernel_rfl
theorem orEsameFyPx2m1 : treeB Tryd.prog (oC (0) (0)) (sameF ++ (yP ++ (x2 ++ (m1 ++ (r31 ++ ordF))))) 300 20 10 [.agg (iv 0 2), .agg (iv 2 2), .agg (iv 4 2)] = .ret (.one (.bool (.lit true))) := by kernel_rfl
theorem orEsameFyPx2m2 : treeB Tryd.prog (oC (0) (0)) (sameF ++ (yP ++ (x2 ++ (m2 ++ (r31 ++ ordF))))) 300 20 10 [.agg (iv 0 2), .agg (iv 2 2), .agg (iv 4 2)] = .ret (.one (.bool (.lit true))) := by kernel_rfl
theorem orEsameFyPx3m1 : treeB Tryd.prog (oC (0) (0)) (sameF ++ (yP ++ (x3 (0) ++ (m1 ++ (r31 ++ ordF))))) 300 20 10 [.agg (iv 0 2), .agg (iv 2 2), .agg (iv 4 2)] = .ret (.one (.bool (.lit true))) := by kernel_rfl
theorem orEsameFyPx3m2 : treeB Tryd.prog (oC (0) (0)) (sameF ++ (yP ++ (x3 (0) ++ (m2 ++ (r31 ++ ordF))))) 300 20 10 [.agg (iv 0 2), .agg (iv 2 2), .agg (iv 4 2)] = .ret (.one (.bool (.lit true))) := by kernel_rfl
theorem orEsameFyNx1m1 : treeB Tryd.prog (oC (0) (0)) (sameF ++ (yN ++ (x1 ++ (m1 ++ (r31 ++ ordF))))) 300 20 10 [.agg (iv 0 2), .agg (iv 2 2), .agg (iv 4 2)] = .ret (.one (.bool (.lit true))) := by kernel_rfl
theorem orEsameFyNx1m2 : treeB Tryd.prog (oC (0) (0)) (sameF ++ (yN ++ (x1 ++ (m2 ++ (r31 ++ ordF))))) 300 20 10 [.agg (iv 0 2), .agg (iv 2 2), .agg (iv 4 2)] = .ret (.one (.bool (.lit true))) := by kernel_rfl
theorem orEsameFyNx2m1 : treeB Tryd.prog (oC (0) (0)) (sameF ++ (yN ++ (x2 ++ (m1 ++ (r31 ++ ordF))))) 300 20 10 [.agg (iv 0 2), .agg (iv 2 2), .agg (iv 4 2)] = .ret (.one (.bool (.lit true))) := by kernel_rfl
theorem orEsameFyNx2m2 : treeB Tryd.prog (oC (0) (0)) (sameF ++ (yN ++ (x2 ++ (m2 ++ (r31 ++ ordF))))) 300 20 10 [.agg (iv 0 2), .agg (iv 2 2), .agg (iv 4 2)] = .ret (.one (.bool (.lit true))) := by kernel_rfl
theorem orEsameFyNx3m1 : treeB Tryd.prog (oC (0) (0)) (sameF ++ (yN ++ (x3 (0) ++ (m1 ++ (r31 ++ ordF))))) 300 20 10 [.agg (iv 0 2), .agg (iv 2 2), .agg (iv 4 2)] = .ret (.one (.bool (.lit true))) := by kernel_rfl
theorem orEsameFyNx3m2 : treeB Tryd.prog (oC (0) (0)) (sameF ++ (yN ++ (x3 (0) ++ (m2 ++ (r31 ++ ordF))))) 300 20 10 [.agg (iv 0 2), .agg (iv 2 2), .agg (iv 4 2)] = .ret (.one (.bool (.lit true))) := by kernel_rfl
theorem orGnq1x1m1 : treeB Tryd.prog (oC (1) (-1)) (nq1 ++ (x1 ++ (m1 ++ r31))) 300 20 10 [.agg (iv 0 2), .agg (iv 2 2), .agg (iv 4 2)] = .ret (.one (.bool (.lit true))) := by kernel_rfl
theorem orGnq1x1m2 : treeB Tryd.prog (oC (1) (-1)) (nq1 ++ (x1 ++ (m2 ++ r31))) 300 20 10 [.agg (iv 0 2), .agg (iv 2 2), .agg (iv 4 2)] = .ret (.one (.bool (.lit true))) := by kernel_rfl
theorem orGnq1x2m1 : treeB Tryd.prog (oC (1) (-1)) (nq1 ++ (x2 ++ (m1 ++ r31))) 300 20 10 [.agg (iv 0 2), .agg (iv 2 2), .agg (iv 4 2)] = .ret (.one (.bool (.lit true))) := by kernel_rfl
theorem orGnq1x2m2 : treeB Tryd.prog (oC (1) (-1)) (nq1 ++ (x2 ++ (m2 ++ r31))) 300 20 10 [.agg (iv 0 2), .agg (iv 2 2), .agg (iv 4 2)] = .ret (.one (.bool (.lit true))) := by kernel_rfl
theorem orGnq1x3m1 : treeB Tryd.prog (oC (1) (-1)) (nq1 ++ (x3 (1) ++ (m1 ++ r31))) 300 20 10 [.agg (iv 0 2), .agg (iv 2 2), .agg (iv 4 2)] = .ret (.one (.bool (.lit true))) := by kernel_rfl
theorem orGnq1x3m2 : treeB Tryd.prog (oC (1) (-1)) (nq1 ++ (x3 (1) ++ (m2 ++ r31))) 300 20 10 [.agg (iv 0 2), .agg (iv 2 2), .agg (iv 4 2)] = .ret (.one (.bool (.lit true))) := by kernel_rfl
theorem orGnq2x1m1 : treeB Tryd.prog (oC (1) (-1)) (nq2 ++ (x1 ++ (m1 ++ r31))) 300 20 10 [.agg (iv 0 2), .agg (iv 2 2), .agg (iv 4 2)] = .ret (.one (.bool (.lit true))) := by kernel_rfl
theorem orGnq2x1m2 : treeB Tryd.prog (oC (1) (-1)) (nq2 ++ (x1 ++ (m2 ++ r31))) 300 20 10 [.agg (iv 0 2), .agg (iv 2 2), .agg (iv 4 2)] = .ret (.one (.bool (.lit true))) := by kernel_rfl
theorem orGnq2x2m1 : treeB Tryd.prog (oC (1) (-1)) (nq2 ++ (x2 ++ (m1 ++ r31))) 300 20 10 [.agg (iv 0 2), .agg (iv 2 2), .agg (iv 4 2)] = .ret (.one (.bool (.lit true))) := by kernel_rfl
theorem orGnq2x2m2 : treeB Tryd.prog (oC (1) (-1)) (nq2 ++ (x2 ++ (m2 ++ r31))) 300 20 10 [.agg (iv 0 2), .agg (iv 2 2), .agg (iv 4 2)] = .ret (.one (.bool (.lit true))) := by kernel_rfl
theorem orGnq2x3m1 : treeB Tryd.prog (oC (1) (-1)) (nq2 ++ (x3 (1) ++ (m1 ++ r31))) 300 20 10 [.agg (iv 0 2), .agg (iv 2 2), .agg (iv 4 2)] = .ret (.one (.bool (.lit true))) := by kernel_rfl
theorem orGnq2x3m2 : treeB Tryd.prog (oC (1) (-1)) (nq2 ++ (x3 (1) ++ (m2 ++ r31))) 300 20 10 [.agg (iv 0 2), .agg (iv 2 2), .agg (iv 4 2)] = .ret (.one (.bool (.lit true))) := by kernel_rfl
theorem addR_in (a c : F2) : In64 (addR a c).1.1 ∧ In64 (addR a c).1.2 := by
  unfold addR
  split
  · unfold ratR
    split
    · rename_i h
      obtain ⟨h1, h2, h3, h4, _⟩ := (validF_iff _).1 (ofQ_valid h)
      show In64 (ofQ (toQ a + toQ c)).1 ∧ In64 (ofQ (toQ a + toQ c)).2
      exact ⟨⟨by omega, by omega⟩, by omega, by omega⟩
    · exact ⟨⟨by decide, by decide⟩, by decide, by decide⟩
  · exact ⟨⟨by decide, by decide⟩, by decide, by decide⟩
section
variable {a b c : F2} (ha : In64 a.1 ∧ In64 a.2) (hb : In64 b.1 ∧ In64 b.2) (hc : In64 c.1 ∧ In64 c.2) {w : World} (he : Env w)
include he in
theorem aw_ok (ρ : EnvS) : ConOkW Tryd.prog ρ w aw4 := .cons (fun _ w' hb => awake_any w' (he.below hb)) .nil
theorem vl_ok {ρ : EnvS} {f : F2} {v : Bool} {i : Nat} (hf : In64 f.1 ∧ In64 f.2) (h : validF f = v) (e1 : ρ.v i = f.1) (e2 : ρ.v (i + 1) = f.2) : ConOkW Tryd.prog ρ w (vlC i v) := by
  refine .cons (fun α w' _ => ?_) .nil
  have := valid_any f hf.1 hf.2 w'
  rw [h, ← e1, ← e2] at this
  exact this
include ha hb hc he in
theorem oC_ok {X Y : Int} (va : validF a = true) (vb : validF b = true) (vc : validF c = true) (h1 : cmpR a b = X) (h2 : cmpR b a = Y) : ConOkW Tryd.prog (envX [a.1, a.2, b.1, b.2, c.1, c.2] [0, cmpR b c, 0, cmpR a c, (addR a c).1.1, (addR a c).1.2, (addR a c).2, (addR b c).1.1, (addR b c).1.2, (addR b c).2, cmpR (addR a c).1 (addR b c).1, floorR a, roundR a, floorR b, roundR b]) w (oC X Y) := by
  have k1 : ∀ w', Calls Tryd.prog 27 #[.agg #[.int .i64 a.1, .int .i64 a.2], .agg #[.int .i64 b.1, .int .i64 b.2]] w' fun e w2 => e = .returned (.int .i64 X) ∧ Below w'.heap.size w' w2 := fun w' => by have := cmp_any a b ha hb w'; rwa [h1] at this
  have k2 : ∀ w', Calls Tryd.prog 27 #[.agg #[.int .i64 b.1, .int .i64 b.2], .agg #[.int .i64 a.1, .int .i64 a.2]] w' fun e w2 => e = .returned (.int .i64 Y) ∧ Below w'.heap.size w' w2 := fun w' => by have := cmp_any b a hb ha w'; rwa [h2] at this
  exact conAppW (vl_ok ha va rfl rfl) (conAppW (vl_ok hb vb rfl rfl) (conAppW (vl_ok hc vc rfl rfl) (conAppW (.cons (fun _ w' _ => k1 w') .nil) (conAppW (.cons (fun _ w' _ => k2 w') .nil) (conAppW (.cons (fun _ w' _ => cmp_any b c hb hc w') .nil)
    (conAppW (.cons (fun _ w' _ => cmp_any a c ha hc w') .nil) (conAppW (.cons (fun _ w' _ => add_any a c ha hc w') .nil) (conAppW (.cons (fun _ w' _ => add_any b c hb hc w') .nil) (conAppW (.cons (fun _ w' _ => cmp_any _ _ (addR_in a c) (addR_in b c) w') .nil)
    (conAppW (.cons (fun _ w' _ => floor_any a ha w') .nil) (conAppW (.cons (fun _ w' _ => round_any a ha w') .nil) (conAppW (.cons (fun _ w' _ => floor_any b hb w') .nil) (conAppW (.cons (fun _ w' _ => round_any b hb w') .nil) (aw_ok he _))))))))))))))
end
end Go.Proofs.YtinnlahmlepeeaaDoor
