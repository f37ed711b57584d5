/- The walk of PlaneCells. -/
import Derived.Test.YtdcblfibkoiflaaPlaF
namespace Go.Proofs.Ytdcblfibkoiflaa
open Go.RowKit
def cc (n k : Int) : Int := mxI (n * k) (n * (k + 1))
theorem least_cc {n lo hi k : Int} (h1 : lo ≤ k) (h2 : k < hi) : leastS n lo hi ≤ cc n k := by
  unfold leastS cc
  have m := mxI_spec (n * k) (n * (k + 1))
  split
  · rename_i h
    have := Int.mul_le_mul_of_nonneg_left (by omega : lo + 1 ≤ k + 1) (Int.le_of_lt h)
    omega
  · rename_i h
    have := Int.mul_le_mul_of_nonpos_left (by omega : n ≤ 0) (by omega : k ≤ hi - 1)
    omega
theorem cell_in {n lo hi k s : Int} (h1 : lo ≤ k) (h2 : k < hi) (hs : 0 ≤ s) (h : cc n k - leastS n lo hi ≤ s) : hlo n lo hi s ≤ k ∧ k < hhi n lo hi s := by
  unfold cc leastS at h
  unfold hlo hhi
  have m := mxI_spec (n * k) (n * (k + 1))
  rcases Int.lt_trichotomy n 0 with hn | hn | hn
  · have h0 : ¬ 0 < n := by omega
    simp only [hn, h0, ifs] at h ⊢
    refine ⟨?_, h2⟩
    rw [Int.tdiv_eq_ediv_of_nonneg hs]
    have e : (hi - 1 - k) * (0 - n) = n * k - n * (hi - 1) := by grind
    have : hi - 1 - k ≤ s / (0 - n) := (Int.le_ediv_iff_mul_le (by omega)).2 (by rw [e]; omega)
    have m2 := mxI_spec lo (hi - 1 - s / (0 - n))
    omega
  · subst hn
    exact ⟨h1, h2⟩
  · have h0 : ¬ n < 0 := by omega
    simp only [hn, h0, ifs] at h ⊢
    refine ⟨h1, ?_⟩
    rw [Int.tdiv_eq_ediv_of_nonneg hs]
    have e : (k - lo) * n = n * (k + 1) - n * (lo + 1) := by grind
    have : k - lo ≤ s / n := (Int.le_ediv_iff_mul_le hn).2 (by rw [e]; omega)
    have m2 := mnI_spec hi (lo + 1 + s / n)
    omega
theorem hull_in (n lo hi s : Int) : lo ≤ hlo n lo hi s ∧ hhi n lo hi s ≤ hi := by
  unfold hlo hhi
  constructor <;> split
  · exact (mxI_spec _ _).1
  · omega
  · exact (mnI_spec _ _).1
  · omega
theorem cc_le {n lo hi k : Int} (h1 : lo ≤ k) (h2 : k < hi) : cc n k ≤ mxI (n * lo) (n * hi) := by
  have m := mxI_spec (n * lo) (n * hi)
  have m2 := mxI_spec (n * k) (n * (k + 1))
  unfold cc
  rcases Int.le_total 0 n with hn | hn
  · have a1 := Int.mul_le_mul_of_nonneg_left (by omega : k ≤ hi) hn
    have a2 := Int.mul_le_mul_of_nonneg_left (by omega : k + 1 ≤ hi) hn
    omega
  · have a1 := Int.mul_le_mul_of_nonpos_left hn (by omega : lo ≤ k)
    have a2 := Int.mul_le_mul_of_nonpos_left hn (by omega : lo ≤ k + 1)
    omega
theorem axis_whole {n lo hi s : Int} (hlt : lo < hi) (hs : 0 ≤ s) (h : mxI (n * lo) (n * hi) - leastS n lo hi ≤ s) : hlo n lo hi s = lo ∧ hhi n lo hi s = hi := by
  have a1 := cell_in (n := n) (lo := lo) (hi := hi) (k := lo) (s := s) (by omega) hlt hs (by have := cc_le (n := n) (lo := lo) (hi := hi) (k := lo) (by omega) hlt; omega)
  have a2 := cell_in (n := n) (lo := lo) (hi := hi) (k := hi - 1) (s := s) (by omega) (by omega) hs (by have := cc_le (n := n) (lo := lo) (hi := hi) (k := hi - 1) (by omega) (by omega); omega)
  have a3 := hull_in n lo hi s
  omega
theorem least_mx {n lo hi : Int} (hlt : lo < hi) : leastS n lo hi ≤ mxI (n * lo) (n * hi) := Int.le_trans (least_cc (Int.le_refl lo) hlt) (cc_le (Int.le_refl lo) hlt)
theorem whole {a b c d x y z u v w : Int} (h2 : chkB x y z u v w = 0) (h : hiE a b c d x y z u v w ≤ 0) : ¬ 0 < grE a b c d x y z u v w ∧ (hlo a x u (slE a b c d x y z u v w) = x ∧ hhi a x u (slE a b c d x y z u v w) = u) ∧ (hlo b y v (slE a b c d x y z u v w) = y ∧ hhi b y v (slE a b c d x y z u v w) = v) ∧ (hlo c z w (slE a b c d x y z u v w) = z ∧ hhi c z w (slE a b c d x y z u v w) = w) := by
  obtain ⟨⟨p1, p2, p3⟩, ⟨p4, p5, p6⟩, p7, p8, p9⟩ := chkB_ok h2
  have gl := gr_least a b c d x y z u v w
  have l1 := least_mx (n := a) p2
  have l2 := least_mx (n := b) p5
  have l3 := least_mx (n := c) p8
  have hh := h
  unfold hiE at hh
  have hs : slE a b c d x y z u v w = 0 - grE a b c d x y z u v w := rfl
  refine ⟨by omega, axis_whole p2 (by omega) (by omega), axis_whole p5 (by omega) (by omega), axis_whole p8 (by omega) (by omega)⟩
def cellV : SV := .agg [.int .i64 (.at 10), .int .i64 (.at 11), .int .i64 (.at 12), .int .i64 (.add (.at 10) (.lit 1)), .int .i64 (.add (.at 11) (.lit 1)), .int .i64 (.add (.at 12) (.lit 1))]
def ceC : Con := [(39, [.agg (iv 0 4), cellV], .tup [⟨false, [.int .i64 (.at 34)]⟩, ⟨false, [.int .i64 (.at 35)]⟩]), (57, [cellV], .one (.int .i64 (.lit 0)))]
def huB : Con := [(28, [.agg (iv 0 4), .agg (iv 4 6)], .tup [⟨true, iv 4 6⟩, ⟨false, [.int .i64 (.lit 0)]⟩])]
def inB : PC := [(.le (.at 4) (.at 24), true), (.le (.at 5) (.at 25), true), (.le (.at 6) (.at 26), true), (.le (.at 27) (.at 7), true), (.le (.at 28) (.at 8), true), (.le (.at 29) (.at 9), true)]
def isB : PC := [(.lt (.at 10) (.at 4), false), (.lt (.at 11) (.at 5), false), (.lt (.at 12) (.at 6), false), (.le (.at 7) (.at 10), false), (.le (.at 8) (.at 11), false), (.le (.at 9) (.at 12), false)] ++ (rg 10 (-1000000) 999999 ++ (rg 11 (-1000000) 999999 ++ rg 12 (-1000000) 999999))
def sI : PC := [(.le (.at 23) (.lit 0), true)]
def sN : PC := [(.lt (.lit 0) (.at 23), true)]
def cI : PC := [(.le (.at 35) (.lit 0), true), (.le (.at 24) (.at 10), true), (.le (.at 25) (.at 11), true), (.le (.at 26) (.at 12), true), (.lt (.at 10) (.at 27), true), (.lt (.at 11) (.at 28), true), (.lt (.at 12) (.at 29), true)]
def cN : PC := [(.lt (.lit 0) (.at 35), true)]
theorem huB_ok {a b c d x y z u v w : Int} (h1 : chkH a b c d = 0) (h2 : chkB x y z u v w = 0) (h : hiE a b c d x y z u v w ≤ 0) (xs ys : List Int) : ConOk Try.prog (envX (a :: b :: c :: d :: x :: y :: z :: u :: v :: w :: xs) ys) huB := by
  obtain ⟨hg, ⟨e1, e2⟩, ⟨e3, e4⟩, e5, e6⟩ := whole (a := a) (b := b) (c := c) (d := d) h2 h
  refine .cons (fun _ W => ?_) .nil
  have := pHull_any h1 h2 W
  rw [hullV, if_neg hg] at this
  unfold slE at e1 e2 e3 e4 e5 e6
  rw [e1, e2, e3, e4, e5, e6] at this
  exact this
theorem ceC_ok {a b c d x y z u v w p q r : Int} (h1 : chkH a b c d = 0) (hc : chkB p q r (p + 1) (q + 1) (r + 1) = 0) : ConOk Try.prog (envX [a, b, c, d, x, y, z, u, v, w, p, q, r] (yv a b c d x y z u v w ++ [loE a b c d p q r (p + 1) (q + 1) (r + 1), hiE a b c d p q r (p + 1) (q + 1) (r + 1)])) ceC :=
  .cons (fun _ W => pExtremes_any h1 hc W) (.cons (fun _ W => by have := bCheckB_any p q r (p + 1) (q + 1) (r + 1) W; rw [hc] at this; exact this) .nil)
theorem ceT1 : treeB Try.prog conC badH 300 20 10 [.agg (iv 0 4), .agg (iv 4 6), .agg (iv 10 3)] = .ret (.one (.bool (.lit true))) := by kernel_rfl
theorem ceT2 : treeB Try.prog conC badB 300 20 10 [.agg (iv 0 4), .agg (iv 4 6), .agg (iv 10 3)] = .ret (.one (.bool (.lit true))) := by kernel_rfl
theorem ceI0 : treeB Try.prog (huB ++ conX) ([((.lt (.at 10) (.at 4)), true)] ++ (sI ++ okS)) 300 20 10 [.agg (iv 0 4), .agg (iv 4 6), .agg (iv 10 3)] = .ret (.one (.bool (.lit true))) := by kernel_rfl
theorem ceS0 : treeB Try.prog (huS ++ conX) ([((.lt (.at 10) (.at 4)), true)] ++ (inB ++ (sN ++ okS))) 300 20 10 [.agg (iv 0 4), .agg (iv 4 6), .agg (iv 10 3)] = .ret (.one (.bool (.lit true))) := by kernel_rfl
theorem ceN0 : treeB Try.prog (huN ++ conX) ([((.lt (.at 10) (.at 4)), true)] ++ (sN ++ okS)) 300 20 10 [.agg (iv 0 4), .agg (iv 4 6), .agg (iv 10 3)] = .ret (.one (.bool (.lit true))) := by kernel_rfl
theorem ceI1 : treeB Try.prog (huB ++ conX) ([((.lt (.at 11) (.at 5)), true)] ++ (sI ++ okS)) 300 20 10 [.agg (iv 0 4), .agg (iv 4 6), .agg (iv 10 3)] = .ret (.one (.bool (.lit true))) := by kernel_rfl
theorem ceS1 : treeB Try.prog (huS ++ conX) ([((.lt (.at 11) (.at 5)), true)] ++ (inB ++ (sN ++ okS))) 300 20 10 [.agg (iv 0 4), .agg (iv 4 6), .agg (iv 10 3)] = .ret (.one (.bool (.lit true))) := by kernel_rfl
theorem ceN1 : treeB Try.prog (huN ++ conX) ([((.lt (.at 11) (.at 5)), true)] ++ (sN ++ okS)) 300 20 10 [.agg (iv 0 4), .agg (iv 4 6), .agg (iv 10 3)] = .ret (.one (.bool (.lit true))) := by kernel_rfl
theorem ceI2 : treeB Try.prog (huB ++ conX) ([((.lt (.at 12) (.at 6)), true)] ++ (sI ++ okS)) 300 20 10 [.agg (iv 0 4), .agg (iv 4 6), .agg (iv 10 3)] = .ret (.one (.bool (.lit true))) := by kernel_rfl
theorem ceS2 : treeB Try.prog (huS ++ conX) ([((.lt (.at 12) (.at 6)), true)] ++ (inB ++ (sN ++ okS))) 300 20 10 [.agg (iv 0 4), .agg (iv 4 6), .agg (iv 10 3)] = .ret (.one (.bool (.lit true))) := by kernel_rfl
theorem ceN2 : treeB Try.prog (huN ++ conX) ([((.lt (.at 12) (.at 6)), true)] ++ (sN ++ okS)) 300 20 10 [.agg (iv 0 4), .agg (iv 4 6), .agg (iv 10 3)] = .ret (.one (.bool (.lit true))) := by kernel_rfl
theorem ceI3 : treeB Try.prog (huB ++ conX) ([((.le (.at 7) (.at 10)), true)] ++ (sI ++ okS)) 300 20 10 [.agg (iv 0 4), .agg (iv 4 6), .agg (iv 10 3)] = .ret (.one (.bool (.lit true))) := by kernel_rfl
theorem ceS3 : treeB Try.prog (huS ++ conX) ([((.le (.at 7) (.at 10)), true)] ++ (inB ++ (sN ++ okS))) 300 20 10 [.agg (iv 0 4), .agg (iv 4 6), .agg (iv 10 3)] = .ret (.one (.bool (.lit true))) := by kernel_rfl
theorem ceN3 : treeB Try.prog (huN ++ conX) ([((.le (.at 7) (.at 10)), true)] ++ (sN ++ okS)) 300 20 10 [.agg (iv 0 4), .agg (iv 4 6), .agg (iv 10 3)] = .ret (.one (.bool (.lit true))) := by kernel_rfl
theorem ceI4 : treeB Try.prog (huB ++ conX) ([((.le (.at 8) (.at 11)), true)] ++ (sI ++ okS)) 300 20 10 [.agg (iv 0 4), .agg (iv 4 6), .agg (iv 10 3)] = .ret (.one (.bool (.lit true))) := by kernel_rfl
theorem ceS4 : treeB Try.prog (huS ++ conX) ([((.le (.at 8) (.at 11)), true)] ++ (inB ++ (sN ++ okS))) 300 20 10 [.agg (iv 0 4), .agg (iv 4 6), .agg (iv 10 3)] = .ret (.one (.bool (.lit true))) := by kernel_rfl
theorem ceN4 : treeB Try.prog (huN ++ conX) ([((.le (.at 8) (.at 11)), true)] ++ (sN ++ okS)) 300 20 10 [.agg (iv 0 4), .agg (iv 4 6), .agg (iv 10 3)] = .ret (.one (.bool (.lit true))) := by kernel_rfl
theorem ceI5 : treeB Try.prog (huB ++ conX) ([((.le (.at 9) (.at 12)), true)] ++ (sI ++ okS)) 300 20 10 [.agg (iv 0 4), .agg (iv 4 6), .agg (iv 10 3)] = .ret (.one (.bool (.lit true))) := by kernel_rfl
theorem ceS5 : treeB Try.prog (huS ++ conX) ([((.le (.at 9) (.at 12)), true)] ++ (inB ++ (sN ++ okS))) 300 20 10 [.agg (iv 0 4), .agg (iv 4 6), .agg (iv 10 3)] = .ret (.one (.bool (.lit true))) := by kernel_rfl
theorem ceN5 : treeB Try.prog (huN ++ conX) ([((.le (.at 9) (.at 12)), true)] ++ (sN ++ okS)) 300 20 10 [.agg (iv 0 4), .agg (iv 4 6), .agg (iv 10 3)] = .ret (.one (.bool (.lit true))) := by kernel_rfl
theorem ceIb : treeB Try.prog (huB ++ (ceC ++ conX)) (isB ++ (sI ++ okS)) 300 20 10 [.agg (iv 0 4), .agg (iv 4 6), .agg (iv 10 3)] = .ret (.one (.bool (.lit true))) := by kernel_rfl
theorem ceSi : treeB Try.prog (huS ++ (ceC ++ conX)) (cI ++ (isB ++ (inB ++ (sN ++ okS)))) 300 20 10 [.agg (iv 0 4), .agg (iv 4 6), .agg (iv 10 3)] = .ret (.one (.bool (.lit true))) := by kernel_rfl
theorem ceSn : treeB Try.prog (huS ++ (ceC ++ conX)) (cN ++ (isB ++ (inB ++ (sN ++ okS)))) 300 20 10 [.agg (iv 0 4), .agg (iv 4 6), .agg (iv 10 3)] = .ret (.one (.bool (.lit true))) := by kernel_rfl
theorem ceNn : treeB Try.prog (huN ++ (ceC ++ conX)) (cN ++ (isB ++ (sN ++ okS))) 300 20 10 [.agg (iv 0 4), .agg (iv 4 6), .agg (iv 10 3)] = .ret (.one (.bool (.lit true))) := by kernel_rfl
theorem cells_walk (a b c d x y z u v w p q r : Int) (W : World) : Calls Try.prog 10 #[.agg #[.int .i64 a, .int .i64 b, .int .i64 c, .int .i64 d], .agg #[.int .i64 x, .int .i64 y, .int .i64 z, .int .i64 u, .int .i64 v, .int .i64 w], .agg #[.int .i64 p, .int .i64 q, .int .i64 r]] W fun e w' => e = .returned (.bool true) ∧ Below W.heap.size W w' := by
  by_cases h1 : chkH a b c d = 0
  case neg => exact tree_law (conC_ok a b c d x y z u v w [p, q, r] []) (pc := badH) (.cons' h1 .nil) wide ceT1 (by kernel_rfl) rfl Good.yes W
  by_cases h2 : chkB x y z u v w = 0
  case neg => exact tree_law (conC_ok a b c d x y z u v w [p, q, r] []) (pc := badB) (.cons' h1 (.cons' h2 .nil)) wide ceT2 (by kernel_rfl) rfl Good.yes W
  have hX : ConOk Try.prog (envX [a, b, c, d, x, y, z, u, v, w, p, q, r] (yv a b c d x y z u v w ++ [loE a b c d p q r (p + 1) (q + 1) (r + 1), hiE a b c d p q r (p + 1) (q + 1) (r + 1)])) conX := conX_ok h1 h2 _ _
  have hO : PC.Ok (envX [a, b, c, d, x, y, z, u, v, w, p, q, r] (yv a b c d x y z u v w ++ [loE a b c d p q r (p + 1) (q + 1) (r + 1), hiE a b c d p q r (p + 1) (q + 1) (r + 1)])) okS := okS_ok h1 h2 _ _
  have gl := gr_least a b c d x y z u v w
  obtain ⟨⟨p1, p2, p3⟩, ⟨p4, p5, p6⟩, p7, p8, p9⟩ := chkB_ok h2
  have hin : PC.Ok (envX [a, b, c, d, x, y, z, u, v, w, p, q, r] (yv a b c d x y z u v w ++ [loE a b c d p q r (p + 1) (q + 1) (r + 1), hiE a b c d p q r (p + 1) (q + 1) (r + 1)])) inB := .cons' (hull_in _ _ _ _).1 (.cons' (hull_in _ _ _ _).1 (.cons' (hull_in _ _ _ _).1 (.cons' (hull_in _ _ _ _).2 (.cons' (hull_in _ _ _ _).2 (.cons' (hull_in _ _ _ _).2 .nil)))))
  have notb : ∀ (cnd : BE), BE.Is (envX [a, b, c, d, x, y, z, u, v, w, p, q, r] (yv a b c d x y z u v w ++ [loE a b c d p q r (p + 1) (q + 1) (r + 1), hiE a b c d p q r (p + 1) (q + 1) (r + 1)])) cnd true → (treeB Try.prog (huB ++ conX) ([(cnd, true)] ++ (sI ++ okS)) 300 20 10 [.agg (iv 0 4), .agg (iv 4 6), .agg (iv 10 3)] = .ret (.one (.bool (.lit true)))) → (treeB Try.prog (huS ++ conX) ([(cnd, true)] ++ (inB ++ (sN ++ okS))) 300 20 10 [.agg (iv 0 4), .agg (iv 4 6), .agg (iv 10 3)] = .ret (.one (.bool (.lit true)))) →
      (treeB Try.prog (huN ++ conX) ([(cnd, true)] ++ (sN ++ okS)) 300 20 10 [.agg (iv 0 4), .agg (iv 4 6), .agg (iv 10 3)] = .ret (.one (.bool (.lit true)))) → Calls Try.prog 10 #[.agg #[.int .i64 a, .int .i64 b, .int .i64 c, .int .i64 d], .agg #[.int .i64 x, .int .i64 y, .int .i64 z, .int .i64 u, .int .i64 v, .int .i64 w], .agg #[.int .i64 p, .int .i64 q, .int .i64 r]] W fun e w' => e = .returned (.bool true) ∧ Below W.heap.size W w' := by
    intro cnd hcnd t1 t2 t3
    have hC : PC.Ok (envX [a, b, c, d, x, y, z, u, v, w, p, q, r] (yv a b c d x y z u v w ++ [loE a b c d p q r (p + 1) (q + 1) (r + 1), hiE a b c d p q r (p + 1) (q + 1) (r + 1)])) [(cnd, true)] := .cons' hcnd .nil
    by_cases hs : hiE a b c d x y z u v w ≤ 0
    · have hS : PC.Ok (envX [a, b, c, d, x, y, z, u, v, w, p, q, r] (yv a b c d x y z u v w ++ [loE a b c d p q r (p + 1) (q + 1) (r + 1), hiE a b c d p q r (p + 1) (q + 1) (r + 1)])) sI := .cons' hs .nil
      exact tree_law ((huB_ok h1 h2 hs _ _).app hX) (hC.app (hS.app hO)) wide t1 (by kernel_rfl) rfl Good.yes W
    · have hS : PC.Ok (envX [a, b, c, d, x, y, z, u, v, w, p, q, r] (yv a b c d x y z u v w ++ [loE a b c d p q r (p + 1) (q + 1) (r + 1), hiE a b c d p q r (p + 1) (q + 1) (r + 1)])) sN := .cons' (show 0 < hiE a b c d x y z u v w by omega) .nil
      by_cases hg : 0 < grE a b c d x y z u v w
      · exact tree_law ((huN_ok h1 h2 hg _ _).app hX) (hC.app (hS.app hO)) wide t3 (by kernel_rfl) rfl Good.yes W
      · exact tree_law ((huS_ok h1 h2 hg _ _).app hX) (hC.app (hin.app (hS.app hO))) wide t2 (by kernel_rfl) rfl Good.yes W
  by_cases n0 : p < x
  case pos => exact notb (.lt (.at 10) (.at 4)) n0 ceI0 ceS0 ceN0
  by_cases n1 : q < y
  case pos => exact notb (.lt (.at 11) (.at 5)) n1 ceI1 ceS1 ceN1
  by_cases n2 : r < z
  case pos => exact notb (.lt (.at 12) (.at 6)) n2 ceI2 ceS2 ceN2
  by_cases n3 : u ≤ p
  case pos => exact notb (.le (.at 7) (.at 10)) n3 ceI3 ceS3 ceN3
  by_cases n4 : v ≤ q
  case pos => exact notb (.le (.at 8) (.at 11)) n4 ceI4 ceS4 ceN4
  by_cases n5 : w ≤ r
  case pos => exact notb (.le (.at 9) (.at 12)) n5 ceI5 ceS5 ceN5
  have hcell : chkB p q r (p + 1) (q + 1) (r + 1) = 0 := by
    unfold chkB
    rw [if_neg (by omega), if_neg (by omega)]
  have hCe : ConOk Try.prog (envX [a, b, c, d, x, y, z, u, v, w, p, q, r] (yv a b c d x y z u v w ++ [loE a b c d p q r (p + 1) (q + 1) (r + 1), hiE a b c d p q r (p + 1) (q + 1) (r + 1)])) ceC := ceC_ok h1 hcell
  have hB : PC.Ok (envX [a, b, c, d, x, y, z, u, v, w, p, q, r] (yv a b c d x y z u v w ++ [loE a b c d p q r (p + 1) (q + 1) (r + 1), hiE a b c d p q r (p + 1) (q + 1) (r + 1)])) isB := by
    refine (PC.Ok.app (.cons' (Int.not_lt.1 n0) (.cons' (Int.not_lt.1 n1) (.cons' (Int.not_lt.1 n2) (.cons' (Int.not_le.1 n3) (.cons' (Int.not_le.1 n4) (.cons' (Int.not_le.1 n5) .nil)))))) ((rg_ok ?_ ?_).app ((rg_ok ?_ ?_).app (rg_ok ?_ ?_))))
    · show -1000000 ≤ p; omega
    · show p ≤ 999999; omega
    · show -1000000 ≤ q; omega
    · show q ≤ 999999; omega
    · show -1000000 ≤ r; omega
    · show r ≤ 999999; omega
  by_cases hs : hiE a b c d x y z u v w ≤ 0
  · have hS : PC.Ok (envX [a, b, c, d, x, y, z, u, v, w, p, q, r] (yv a b c d x y z u v w ++ [loE a b c d p q r (p + 1) (q + 1) (r + 1), hiE a b c d p q r (p + 1) (q + 1) (r + 1)])) sI := .cons' hs .nil
    exact tree_law ((huB_ok h1 h2 hs _ _).app (hCe.app hX)) (hB.app (hS.app hO)) wide ceIb (by kernel_rfl) rfl Good.yes W
  · have hS : PC.Ok (envX [a, b, c, d, x, y, z, u, v, w, p, q, r] (yv a b c d x y z u v w ++ [loE a b c d p q r (p + 1) (q + 1) (r + 1), hiE a b c d p q r (p + 1) (q + 1) (r + 1)])) sN := .cons' (show 0 < hiE a b c d x y z u v w by omega) .nil
    have c1 := least_cc (n := a) (lo := x) (hi := u) (k := p) (by omega) (by omega)
    have c2 := least_cc (n := b) (lo := y) (hi := v) (k := q) (by omega) (by omega)
    have c3 := least_cc (n := c) (lo := z) (hi := w) (k := r) (by omega) (by omega)
    have hc : hiE a b c d p q r (p + 1) (q + 1) (r + 1) = 0 - d + cc a p + cc b q + cc c r := rfl
    by_cases hi : hiE a b c d p q r (p + 1) (q + 1) (r + 1) ≤ 0
    · have hg : ¬ 0 < grE a b c d x y z u v w := by omega
      have hsl : slE a b c d x y z u v w = 0 - grE a b c d x y z u v w := rfl
      have i1 := cell_in (n := a) (lo := x) (hi := u) (k := p) (s := slE a b c d x y z u v w) (by omega) (by omega) (by omega) (by omega)
      have i2 := cell_in (n := b) (lo := y) (hi := v) (k := q) (s := slE a b c d x y z u v w) (by omega) (by omega) (by omega) (by omega)
      have i3 := cell_in (n := c) (lo := z) (hi := w) (k := r) (s := slE a b c d x y z u v w) (by omega) (by omega) (by omega) (by omega)
      have hI : PC.Ok (envX [a, b, c, d, x, y, z, u, v, w, p, q, r] (yv a b c d x y z u v w ++ [loE a b c d p q r (p + 1) (q + 1) (r + 1), hiE a b c d p q r (p + 1) (q + 1) (r + 1)])) cI := .cons' hi (.cons' i1.1 (.cons' i2.1 (.cons' i3.1 (.cons' i1.2 (.cons' i2.2 (.cons' i3.2 .nil))))))
      exact tree_law ((huS_ok h1 h2 hg _ _).app (hCe.app hX)) (hI.app (hB.app (hin.app (hS.app hO)))) wide ceSi (by kernel_rfl) rfl Good.yes W
    · have hN : PC.Ok (envX [a, b, c, d, x, y, z, u, v, w, p, q, r] (yv a b c d x y z u v w ++ [loE a b c d p q r (p + 1) (q + 1) (r + 1), hiE a b c d p q r (p + 1) (q + 1) (r + 1)])) cN := .cons' (show 0 < hiE a b c d p q r (p + 1) (q + 1) (r + 1) by omega) .nil
      by_cases hg : 0 < grE a b c d x y z u v w
      · exact tree_law ((huN_ok h1 h2 hg _ _).app (hCe.app hX)) (hN.app (hB.app (hS.app hO))) wide ceNn (by kernel_rfl) rfl Good.yes W
      · exact tree_law ((huS_ok h1 h2 hg _ _).app (hCe.app hX)) (hN.app (hB.app (hin.app (hS.app hO)))) wide ceSn (by kernel_rfl) rfl Good.yes W
end Go.Proofs.Ytdcblfibkoiflaa
