/- The walk of PlaneHulls; what cells and hulls have to do with one another. -/
import Derived.Test.YtdcblfibkoiflaaPlaE
namespace Go.Proofs.Ytdcblfibkoiflaa
open Go.RowKit
def slE (a b c d x y z u v w : Int) : Int := 0 - grE a b c d x y z u v w
theorem lh {n : Int} (h : -1000 ≤ n ∧ n ≤ 1000) {lo hi : Int} (h1 : -1000000 ≤ lo ∧ lo ≤ 1000000) (h2 : -1000000 ≤ hi ∧ hi ≤ 1000000) : -2000000000 ≤ leastS n lo hi ∧ leastS n lo hi ≤ 2000000000 := by
  unfold leastS
  have key : ∀ m : Int, -1000001 ≤ m → m ≤ 1000001 → -2000000000 ≤ n * m ∧ n * m ≤ 2000000000 := by
    intro m h3 h4
    have e : (n * m).natAbs = n.natAbs * m.natAbs := Int.natAbs_mul n m
    have := Nat.mul_le_mul (by omega : n.natAbs ≤ 1000) (by omega : m.natAbs ≤ 1000001)
    omega
  split
  · exact key _ (by omega) (by omega)
  · exact key _ (by omega) (by omega)
def hz6 : List SC := [.int .i64 (.lit 0), .int .i64 (.lit 0), .int .i64 (.lit 0), .int .i64 (.lit 0), .int .i64 (.lit 0), .int .i64 (.lit 0)]
def huN : Con := [(28, [.agg (iv 0 4), .agg (iv 4 6)], .tup [⟨true, hz6⟩, ⟨false, [.int .i64 (.lit 9)]⟩])]
def huS : Con := [(28, [.agg (iv 0 4), .agg (iv 4 6)], .tup [⟨true, iv 24 6⟩, ⟨false, [.int .i64 (.lit 0)]⟩])]
def lsC : Con := [(50, [i1 0, i1 4, i1 7], i1 31), (50, [i1 1, i1 5, i1 8], i1 32), (50, [i1 2, i1 6, i1 9], i1 33)]
def spA (n lo hi p q : Nat) : List SV := [i1 n, i1 lo, i1 hi, .one (.int .i64 (.sub (.sub (.at 3) (.at p)) (.at q)))]
def spR (r s : Nat) : SV := .tup [⟨false, [.int .i64 (.at r)]⟩, ⟨false, [.int .i64 (.at s)]⟩]
def spC : Con := [(51, spA 0 4 7 32 33, spR 24 27), (51, spA 1 5 8 31 33, spR 25 28), (51, spA 2 6 9 31 32, spR 26 29)]
def rgL : PC := rg 31 (-2000000000) 2000000000 ++ (rg 32 (-2000000000) 2000000000 ++ rg 33 (-2000000000) 2000000000)
def gtF (b : Bool) : PC := [(.lt (.at 3) (.add (.add (.at 31) (.at 32)) (.at 33)), b)]
theorem ConOk.app {P : Program} {ρ : Env} {x y : Con} (hx : ConOk P ρ x) (hy : ConOk P ρ y) : ConOk P ρ (x ++ y) := by
  intro f ar v hm
  rcases List.mem_append.1 hm with h | h
  · exact hx f ar v h
  · exact hy f ar v h
/-- The numbers of a law: what came in, and what is told of it. -/
abbrev yv (a b c d x y z u v w : Int) : List Int := [chkH a b c d, chkB x y z u v w, loE a b c d x y z u v w, hiE a b c d x y z u v w, hlo a x u (slE a b c d x y z u v w), hlo b y v (slE a b c d x y z u v w), hlo c z w (slE a b c d x y z u v w), hhi a x u (slE a b c d x y z u v w), hhi b y v (slE a b c d x y z u v w), hhi c z w (slE a b c d x y z u v w), 0, leastS a x u, leastS b y v, leastS c z w]
theorem gr_least (a b c d x y z u v w : Int) : grE a b c d x y z u v w = 0 - d + leastS a x u + leastS b y v + leastS c z w := by
  unfold grE; rw [ctr_least, ctr_least, ctr_least]
theorem huN_ok {a b c d x y z u v w : Int} (h1 : chkH a b c d = 0) (h2 : chkB x y z u v w = 0) (hg : 0 < grE a b c d x y z u v w) (xs ys : List Int) : ConOk Try.prog (envX (a :: b :: c :: d :: x :: y :: z :: u :: v :: w :: xs) ys) huN :=
  .cons (fun _ W => by have := pHull_any h1 h2 W; rw [hullV, if_pos hg] at this; exact this) .nil
theorem huS_ok {a b c d x y z u v w : Int} (h1 : chkH a b c d = 0) (h2 : chkB x y z u v w = 0) (hg : ¬ 0 < grE a b c d x y z u v w) (xs ys : List Int) : ConOk Try.prog (envX (a :: b :: c :: d :: x :: y :: z :: u :: v :: w :: xs) (yv a b c d x y z u v w ++ ys)) huS :=
  .cons (fun _ W => by have := pHull_any h1 h2 W; rw [hullV, if_neg hg] at this; exact this) .nil
theorem lsC_ok {a b c d x y z u v w : Int} (h1 : chkH a b c d = 0) (h2 : chkB x y z u v w = 0) (xs ys : List Int) : ConOk Try.prog (envX (a :: b :: c :: d :: x :: y :: z :: u :: v :: w :: xs) (yv a b c d x y z u v w ++ ys)) lsC := by
  obtain ⟨q1, q2, q3, q4, _⟩ := chkH_ok h1
  obtain ⟨⟨p1, p2, p3⟩, ⟨p4, p5, p6⟩, p7, p8, p9⟩ := chkB_ok h2
  exact .cons (fun _ W => rLeast_any q1 ⟨p1, by omega⟩ ⟨by omega, p3⟩ W) (.cons (fun _ W => rLeast_any q2 ⟨p4, by omega⟩ ⟨by omega, p6⟩ W) (.cons (fun _ W => rLeast_any q3 ⟨p7, by omega⟩ ⟨by omega, p9⟩ W) .nil))
theorem rgL_ok {a b c d x y z u v w : Int} (h1 : chkH a b c d = 0) (h2 : chkB x y z u v w = 0) (xs ys : List Int) : PC.Ok (envX xs (yv a b c d x y z u v w ++ ys)) rgL := by
  obtain ⟨q1, q2, q3, q4, _⟩ := chkH_ok h1
  obtain ⟨⟨p1, p2, p3⟩, ⟨p4, p5, p6⟩, p7, p8, p9⟩ := chkB_ok h2
  have e1 := lh q1 ⟨p1, by omega⟩ ⟨by omega, p3⟩
  have e2 := lh q2 ⟨p4, by omega⟩ ⟨by omega, p6⟩
  have e3 := lh q3 ⟨p7, by omega⟩ ⟨by omega, p9⟩
  exact (rg_ok e1.1 e1.2).app ((rg_ok e2.1 e2.2).app (rg_ok e3.1 e3.2))
theorem spC_ok {a b c d x y z u v w : Int} (h1 : chkH a b c d = 0) (h2 : chkB x y z u v w = 0) (hg : ¬ 0 < grE a b c d x y z u v w) (xs ys : List Int) : ConOk Try.prog (envX (a :: b :: c :: d :: x :: y :: z :: u :: v :: w :: xs) (yv a b c d x y z u v w ++ ys)) spC := by
  obtain ⟨q1, q2, q3, q4, _⟩ := chkH_ok h1
  obtain ⟨⟨p1, p2, p3⟩, ⟨p4, p5, p6⟩, p7, p8, p9⟩ := chkB_ok h2
  have e1 := lh q1 (lo := x) (hi := u) ⟨p1, by omega⟩ ⟨by omega, p3⟩
  have e2 := lh q2 (lo := y) (hi := v) ⟨p4, by omega⟩ ⟨by omega, p6⟩
  have e3 := lh q3 (lo := z) (hi := w) ⟨p7, by omega⟩ ⟨by omega, p9⟩
  have gl := gr_least a b c d x y z u v w
  have hs : 0 ≤ slE a b c d x y z u v w := by unfold slE; omega
  have r1 := span_hull (n := a) (lo := x) (hi := u) (s := slE a b c d x y z u v w) (q := d - leastS b y v - leastS c z w) hs p2 (by unfold slE; omega)
  have r2 := span_hull (n := b) (lo := y) (hi := v) (s := slE a b c d x y z u v w) (q := d - leastS a x u - leastS c z w) hs p5 (by unfold slE; omega)
  have r3 := span_hull (n := c) (lo := z) (hi := w) (s := slE a b c d x y z u v w) (q := d - leastS a x u - leastS b y v) hs p8 (by unfold slE; omega)
  refine .cons (fun _ W => ?_) (.cons (fun _ W => ?_) (.cons (fun _ W => ?_) .nil))
  · have := rSpan_any (n := a) (lo := x) (hi := u) (q := d - leastS b y v - leastS c z w) q1 ⟨p1, by omega⟩ ⟨by omega, p3⟩ (by omega) W
    rw [r1.1, r1.2] at this
    exact this
  · have := rSpan_any (n := b) (lo := y) (hi := v) (q := d - leastS a x u - leastS c z w) q2 ⟨p4, by omega⟩ ⟨by omega, p6⟩ (by omega) W
    rw [r2.1, r2.2] at this
    exact this
  · have := rSpan_any (n := c) (lo := z) (hi := w) (q := d - leastS a x u - leastS b y v) q3 ⟨p7, by omega⟩ ⟨by omega, p9⟩ (by omega) W
    rw [r3.1, r3.2] at this
    exact this
theorem hulT1 : treeB Try.prog conC badH 300 20 6 [.agg (iv 0 4), .agg (iv 4 6)] = .ret (.one (.bool (.lit true))) := by kernel_rfl
theorem hulT2 : treeB Try.prog conC badB 300 20 6 [.agg (iv 0 4), .agg (iv 4 6)] = .ret (.one (.bool (.lit true))) := by kernel_rfl
theorem hulT3 : treeB Try.prog (huN ++ (lsC ++ conC)) (gtF true ++ (rgL ++ okS)) 300 20 6 [.agg (iv 0 4), .agg (iv 4 6)] = .ret (.one (.bool (.lit true))) := by kernel_rfl
theorem hulT4 : treeB Try.prog (huS ++ (spC ++ (lsC ++ conC))) (gtF false ++ (rgL ++ okS)) 300 20 6 [.agg (iv 0 4), .agg (iv 4 6)] = .ret (.one (.bool (.lit true))) := by kernel_rfl
theorem hulls_walk (a b c d x y z u v w : Int) (W : World) : Calls Try.prog 6 #[.agg #[.int .i64 a, .int .i64 b, .int .i64 c, .int .i64 d], .agg #[.int .i64 x, .int .i64 y, .int .i64 z, .int .i64 u, .int .i64 v, .int .i64 w]] W fun e w' => e = .returned (.bool true) ∧ Below W.heap.size W w' := by
  by_cases h1 : chkH a b c d = 0
  · by_cases h2 : chkB x y z u v w = 0
    · have gl := gr_least a b c d x y z u v w
      have hc := (lsC_ok h1 h2 [] []).app (conC_ok a b c d x y z u v w [] (yv a b c d x y z u v w).tail.tail)
      have ho := (rgL_ok h1 h2 [a, b, c, d, x, y, z, u, v, w] []).app (okS_ok h1 h2 [] (yv a b c d x y z u v w).tail.tail)
      by_cases hg : 0 < grE a b c d x y z u v w
      · have hp : PC.Ok (envX [a, b, c, d, x, y, z, u, v, w] (yv a b c d x y z u v w ++ [])) (gtF true) := .cons' (show d < leastS a x u + leastS b y v + leastS c z w by omega) .nil
        exact tree_law ((huN_ok h1 h2 hg [] (yv a b c d x y z u v w)).app hc) (hp.app ho) wide hulT3 (by kernel_rfl) rfl Good.yes W
      · have hp : PC.Ok (envX [a, b, c, d, x, y, z, u, v, w] (yv a b c d x y z u v w ++ [])) (gtF false) := .cons' (show leastS a x u + leastS b y v + leastS c z w ≤ d by omega) .nil
        exact tree_law ((huS_ok h1 h2 hg [] []).app ((spC_ok h1 h2 hg [] []).app hc)) (hp.app ho) wide hulT4 (by kernel_rfl) rfl Good.yes W
    · exact tree_law (conC_ok a b c d x y z u v w [] []) (pc := badB) (.cons' h1 (.cons' h2 .nil)) wide hulT2 (by kernel_rfl) rfl Good.yes W
  · exact tree_law (conC_ok a b c d x y z u v w [] []) (pc := badH) (.cons' h1 .nil) wide hulT1 (by kernel_rfl) rfl Good.yes W
end Go.Proofs.Ytdcblfibkoiflaa
