/- plane.Depth, plane.Side; the walk of PlaneMoves. -/
import Derived.Test.YtdcblfibkoiflaaPlaG
namespace Go.Proofs.Ytdcblfibkoiflaa
open Go.RowKit
def li (n : Int) : SV := .one (.int .i64 (.lit n))
theorem mul_bd {a x : Int} (h1 : -1000 ≤ a ∧ a ≤ 1000) (h2 : -1000000 ≤ x ∧ x ≤ 1000000) : -1000000000 ≤ a * x ∧ a * x ≤ 1000000000 := by
  have p1 := Int.mul_nonneg (by omega : 0 ≤ 1000 - a) (by omega : 0 ≤ 1000000 - x)
  have p2 := Int.mul_nonneg (by omega : 0 ≤ 1000 + a) (by omega : 0 ≤ 1000000 + x)
  have p3 := Int.mul_nonneg (by omega : 0 ≤ 1000 - a) (by omega : 0 ≤ 1000000 + x)
  have p4 := Int.mul_nonneg (by omega : 0 ≤ 1000 + a) (by omega : 0 ≤ 1000000 - x)
  simp only [Int.sub_mul, Int.mul_sub, Int.add_mul, Int.mul_add] at p1 p2 p3 p4
  omega
theorem hi_bd {a b c d x y z u v w : Int} (h1 : chkH a b c d = 0) (h2 : chkB x y z u v w = 0) : -8000000000 ≤ hiE a b c d x y z u v w ∧ hiE a b c d x y z u v w ≤ 8000000000 := by
  obtain ⟨ha, hb, hc, hd, _⟩ := chkH_ok h1
  obtain ⟨⟨q1, q2, q3⟩, ⟨q4, q5, q6⟩, q7, q8, q9⟩ := chkB_ok h2
  have e1 := mul_bd ha (x := x) ⟨q1, by omega⟩
  have e2 := mul_bd ha (x := u) ⟨by omega, q3⟩
  have e3 := mul_bd hb (x := y) ⟨q4, by omega⟩
  have e4 := mul_bd hb (x := v) ⟨by omega, q6⟩
  have e5 := mul_bd hc (x := z) ⟨q7, by omega⟩
  have e6 := mul_bd hc (x := w) ⟨by omega, q9⟩
  have g1 := mxI_spec (a * x) (a * u)
  have g2 := mxI_spec (b * y) (b * v)
  have g3 := mxI_spec (c * z) (c * w)
  unfold hiE
  omega
def sdE (a b c d x y z u v w : Int) : Int := if chkH a b c d = 0 then chkB x y z u v w else chkH a b c d
def sdN (a b c d x y z u v w : Int) : Int := if sdE a b c d x y z u v w = 0 then (if hiE a b c d x y z u v w ≤ 0 then 1 else if 0 ≤ loE a b c d x y z u v w then 2 else 3) else 0
theorem sdT1 : tree Try.prog conC badH 300 20 19 [.agg (iv 0 4), .agg (iv 4 6)] = .ret (.tup [⟨false, [.int .i64 (.lit 0)]⟩, ⟨false, [.int .i64 (.at 20)]⟩]) := by kernel_rfl
theorem sdT2 : tree Try.prog conC badB 300 20 19 [.agg (iv 0 4), .agg (iv 4 6)] = .ret (.tup [⟨false, [.int .i64 (.lit 0)]⟩, ⟨false, [.int .i64 (.at 21)]⟩]) := by kernel_rfl
theorem sdT3 : tree Try.prog conX okS 300 20 19 [.agg (iv 0 4), .agg (iv 4 6)] = .br (.le (.at 23) (.lit 0)) (.ret (.tup [⟨false, [.int .i64 (.lit 1)]⟩, ⟨false, [.int .i64 (.lit 0)]⟩]))
  (.br (.le (.lit 0) (.at 22)) (.ret (.tup [⟨false, [.int .i64 (.lit 2)]⟩, ⟨false, [.int .i64 (.lit 0)]⟩])) (.ret (.tup [⟨false, [.int .i64 (.lit 3)]⟩, ⟨false, [.int .i64 (.lit 0)]⟩]))) := by kernel_rfl
theorem tup2 {p q p' q' : Int} (h1 : p = p') (h2 : q = q') : (Value.tuple #[.int .i64 p, .int .i64 q]) = .tuple #[.int .i64 p', .int .i64 q'] := by rw [h1, h2]
theorem pSide_any (a b c d x y z u v w : Int) (W : World) : Calls Try.prog 19 #[.agg #[.int .i64 a, .int .i64 b, .int .i64 c, .int .i64 d], .agg #[.int .i64 x, .int .i64 y, .int .i64 z, .int .i64 u, .int .i64 v, .int .i64 w]] W fun e w' =>
    e = .returned (.tuple #[.int .i64 (sdN a b c d x y z u v w), .int .i64 (sdE a b c d x y z u v w)]) ∧ Below W.heap.size W w' := by
  by_cases h1 : chkH a b c d = 0
  case neg =>
    have e1 : sdE a b c d x y z u v w = chkH a b c d := if_neg h1
    have e2 : sdN a b c d x y z u v w = 0 := by unfold sdN; rw [e1, if_neg h1]
    exact tree_fun (conC_ok a b c d x y z u v w [] []) (pc := badH) (.cons' h1 .nil) wide sdT1 (by kernel_rfl) rfl (All.ret (R := (· = _)) (tup2 e2.symm e1.symm)) W
  have e1 : sdE a b c d x y z u v w = chkB x y z u v w := if_pos h1
  by_cases h2 : chkB x y z u v w = 0
  case neg =>
    have e2 : sdN a b c d x y z u v w = 0 := by unfold sdN; rw [e1, if_neg h2]
    exact tree_fun (conC_ok a b c d x y z u v w [] []) (pc := badB) (.cons' h1 (.cons' h2 .nil)) wide sdT2 (by kernel_rfl) rfl (All.ret (R := (· = _)) (tup2 e2.symm e1.symm)) W
  have e0 : sdE a b c d x y z u v w = 0 := e1.trans h2
  have e2 : sdN a b c d x y z u v w = if hiE a b c d x y z u v w ≤ 0 then 1 else if 0 ≤ loE a b c d x y z u v w then 2 else 3 := if_pos e0
  refine tree_fun (conX_ok h1 h2 [] []) (okS_ok h1 h2 [] [loE a b c d x y z u v w, hiE a b c d x y z u v w]) wide sdT3 (by kernel_rfl) rfl ?_ W
  refine All.br' (fun (h : hiE a b c d x y z u v w ≤ 0) => ?_) (fun (h : 0 < hiE a b c d x y z u v w) => ?_)
  · exact All.ret (R := (· = _)) (tup2 (e2.trans (if_pos h)).symm e0.symm)
  · rw [if_neg (by omega)] at e2
    refine All.br' (fun (hl : 0 ≤ loE a b c d x y z u v w) => ?_) (fun (hl : loE a b c d x y z u v w < 0) => ?_)
    · exact All.ret (R := (· = _)) (tup2 (e2.trans (if_pos hl)).symm e0.symm)
    · exact All.ret (R := (· = _)) (tup2 (e2.trans (if_neg (by omega))).symm e0.symm)
def slopeS (k a b c : Int) : Int := if k = 0 then a else if k = 1 then 0 - a else if k = 2 then b else if k = 3 then 0 - b else if k = 4 then c else 0 - c
def dpE (a b c d x y z u v w k m : Int) : Int := if sdE a b c d x y z u v w = 0 then (if k < 0 ∨ 5 < k ∨ m < 0 ∨ 1000000 < m then 6 else if 0 < hiE a b c d x y z u v w then 8 else 0) else sdE a b c d x y z u v w
def dpN (a b c d x y z u v w k m : Int) : Int := if dpE a b c d x y z u v w k m = 0 then (if slopeS k a b c ≤ 0 then m else mnI m (Int.tdiv (0 - hiE a b c d x y z u v w) (slopeS k a b c))) else 0
def r23 : PC := rg 23 (-8000000000) 8000000000
def dpTree (s : IE) : T SV := .br (.lt (.at 11) (.lit 0)) (.ret (.tup [⟨false, [.int .i64 (.lit 0)]⟩, ⟨false, [.int .i64 (.lit 6)]⟩]))
  (.br (.lt (.lit 1000000) (.at 11)) (.ret (.tup [⟨false, [.int .i64 (.lit 0)]⟩, ⟨false, [.int .i64 (.lit 6)]⟩]))
  (.br (.lt (.lit 0) (.at 23)) (.ret (.tup [⟨false, [.int .i64 (.lit 0)]⟩, ⟨false, [.int .i64 (.lit 8)]⟩]))
  (.br (.le s (.lit 0)) (.ret (.tup [⟨false, [.int .i64 (.at 11)]⟩, ⟨false, [.int .i64 (.lit 0)]⟩]))
  (.ret (.tup [⟨false, [.int .i64 (.mn (.at 11) (.quo (.sub (.lit 0) (.at 23)) s))]⟩, ⟨false, [.int .i64 (.lit 0)]⟩])))))
theorem dpT1 : tree Try.prog conC badH 300 20 30 [.agg (iv 0 4), .agg (iv 4 6), i1 10, i1 11] = .ret (.tup [⟨false, [.int .i64 (.lit 0)]⟩, ⟨false, [.int .i64 (.at 20)]⟩]) := by kernel_rfl
theorem dpT2 : tree Try.prog conC badB 300 20 30 [.agg (iv 0 4), .agg (iv 4 6), i1 10, i1 11] = .ret (.tup [⟨false, [.int .i64 (.lit 0)]⟩, ⟨false, [.int .i64 (.at 21)]⟩]) := by kernel_rfl
theorem dpT3 : tree Try.prog conX ([(.lt (.at 10) (.lit 0), true)] ++ okS) 300 20 30 [.agg (iv 0 4), .agg (iv 4 6), i1 10, i1 11] = .ret (.tup [⟨false, [.int .i64 (.lit 0)]⟩, ⟨false, [.int .i64 (.lit 6)]⟩]) := by kernel_rfl
theorem dpT4 : tree Try.prog conX ([(.lt (.lit 5) (.at 10), true)] ++ okS) 300 20 30 [.agg (iv 0 4), .agg (iv 4 6), i1 10, i1 11] = .ret (.tup [⟨false, [.int .i64 (.lit 0)]⟩, ⟨false, [.int .i64 (.lit 6)]⟩]) := by kernel_rfl
theorem dpK0 : tree Try.prog conX (r23 ++ okS) 300 20 30 [.agg (iv 0 4), .agg (iv 4 6), li 0, i1 11] = dpTree (.at 0) := by kernel_rfl
theorem dpK1 : tree Try.prog conX (r23 ++ okS) 300 20 30 [.agg (iv 0 4), .agg (iv 4 6), li 1, i1 11] = dpTree (.sub (.lit 0) (.at 0)) := by kernel_rfl
theorem dpK2 : tree Try.prog conX (r23 ++ okS) 300 20 30 [.agg (iv 0 4), .agg (iv 4 6), li 2, i1 11] = dpTree (.at 1) := by kernel_rfl
theorem dpK3 : tree Try.prog conX (r23 ++ okS) 300 20 30 [.agg (iv 0 4), .agg (iv 4 6), li 3, i1 11] = dpTree (.sub (.lit 0) (.at 1)) := by kernel_rfl
theorem dpK4 : tree Try.prog conX (r23 ++ okS) 300 20 30 [.agg (iv 0 4), .agg (iv 4 6), li 4, i1 11] = dpTree (.at 2) := by kernel_rfl
theorem dpK5 : tree Try.prog conX (r23 ++ okS) 300 20 30 [.agg (iv 0 4), .agg (iv 4 6), li 5, i1 11] = dpTree (.sub (.lit 0) (.at 2)) := by kernel_rfl
theorem dpTree_all {a b c d x y z u v w k m : Int} {s : IE} (hs : s.den (envX [a, b, c, d, x, y, z, u, v, w, k, m] [chkH a b c d, chkB x y z u v w, loE a b c d x y z u v w, hiE a b c d x y z u v w]) = slopeS k a b c) (h0 : sdE a b c d x y z u v w = 0) (hk : 0 ≤ k) (hk5 : k ≤ 5) :
    (dpTree s).All (envX [a, b, c, d, x, y, z, u, v, w, k, m] [chkH a b c d, chkB x y z u v w, loE a b c d x y z u v w, hiE a b c d x y z u v w]) (· = .tuple #[.int .i64 (dpN a b c d x y z u v w k m), .int .i64 (dpE a b c d x y z u v w k m)]) := by
  have e1 : dpE a b c d x y z u v w k m = if k < 0 ∨ 5 < k ∨ m < 0 ∨ 1000000 < m then 6 else if 0 < hiE a b c d x y z u v w then 8 else 0 := if_pos h0
  unfold dpTree
  refine All.br' (fun (h : m < 0) => ?_) (fun (h : 0 ≤ m) => ?_)
  · rw [if_pos (by omega)] at e1
    exact All.ret (R := (· = _)) (tup2 (by unfold dpN; rw [e1]; rfl) e1.symm)
  refine All.br' (fun (h2 : 1000000 < m) => ?_) (fun (h2 : m ≤ 1000000) => ?_)
  · rw [if_pos (by omega)] at e1
    exact All.ret (R := (· = _)) (tup2 (by unfold dpN; rw [e1]; rfl) e1.symm)
  rw [if_neg (by omega)] at e1
  refine All.br' (fun (h3 : 0 < hiE a b c d x y z u v w) => ?_) (fun (h3 : hiE a b c d x y z u v w ≤ 0) => ?_)
  · rw [if_pos h3] at e1
    exact All.ret (R := (· = _)) (tup2 (by unfold dpN; rw [e1]; rfl) e1.symm)
  rw [if_neg (by omega)] at e1
  have e2 : dpN a b c d x y z u v w k m = if slopeS k a b c ≤ 0 then m else mnI m (Int.tdiv (0 - hiE a b c d x y z u v w) (slopeS k a b c)) := if_pos e1
  refine All.br' (fun (h4 : s.den _ ≤ 0) => ?_) (fun (h4 : 0 < s.den _) => ?_)
  · rw [hs] at h4
    exact All.ret (R := (· = _)) (tup2 (e2.trans (if_pos h4)).symm e1.symm)
  · rw [hs] at h4
    refine All.ret (R := (· = _)) (tup2 (p := mnI m (Int.tdiv (0 - hiE a b c d x y z u v w) (s.den _))) ?_ e1.symm)
    rw [hs]
    exact (e2.trans (if_neg (by omega))).symm
theorem six {k : Int} (h1 : 0 ≤ k) (h2 : k ≤ 5) : k = 0 ∨ k = 1 ∨ k = 2 ∨ k = 3 ∨ k = 4 ∨ k = 5 := by omega
theorem pDepth_any (a b c d x y z u v w k m : Int) (W : World) : Calls Try.prog 30 #[.agg #[.int .i64 a, .int .i64 b, .int .i64 c, .int .i64 d], .agg #[.int .i64 x, .int .i64 y, .int .i64 z, .int .i64 u, .int .i64 v, .int .i64 w], .int .i64 k, .int .i64 m] W fun e w' =>
    e = .returned (.tuple #[.int .i64 (dpN a b c d x y z u v w k m), .int .i64 (dpE a b c d x y z u v w k m)]) ∧ Below W.heap.size W w' := by
  by_cases h1 : chkH a b c d = 0
  case neg =>
    have e0 : sdE a b c d x y z u v w = chkH a b c d := if_neg h1
    have e1 : dpE a b c d x y z u v w k m = chkH a b c d := by unfold dpE; rw [e0, if_neg h1]
    have e2 : dpN a b c d x y z u v w k m = 0 := by unfold dpN; rw [e1, if_neg h1]
    exact tree_fun (conC_ok a b c d x y z u v w [k, m] []) (pc := badH) (.cons' h1 .nil) wide dpT1 (by kernel_rfl) rfl (All.ret (R := (· = _)) (tup2 e2.symm e1.symm)) W
  have e0 : sdE a b c d x y z u v w = chkB x y z u v w := if_pos h1
  by_cases h2 : chkB x y z u v w = 0
  case neg =>
    have e1 : dpE a b c d x y z u v w k m = chkB x y z u v w := by unfold dpE; rw [e0, if_neg h2]
    have e2 : dpN a b c d x y z u v w k m = 0 := by unfold dpN; rw [e1, if_neg h2]
    exact tree_fun (conC_ok a b c d x y z u v w [k, m] []) (pc := badB) (.cons' h1 (.cons' h2 .nil)) wide dpT2 (by kernel_rfl) rfl (All.ret (R := (· = _)) (tup2 e2.symm e1.symm)) W
  have h0 : sdE a b c d x y z u v w = 0 := e0.trans h2
  have hX := conX_ok h1 h2 [k, m] []
  have hO := okS_ok h1 h2 [k, m] [loE a b c d x y z u v w, hiE a b c d x y z u v w]
  have e1 : dpE a b c d x y z u v w k m = if k < 0 ∨ 5 < k ∨ m < 0 ∨ 1000000 < m then 6 else if 0 < hiE a b c d x y z u v w then 8 else 0 := if_pos h0
  by_cases h3 : k < 0
  · rw [if_pos (by omega)] at e1
    have hp : PC.Ok (envX [a, b, c, d, x, y, z, u, v, w, k, m] [chkH a b c d, chkB x y z u v w, loE a b c d x y z u v w, hiE a b c d x y z u v w]) [(.lt (.at 10) (.lit 0), true)] := .cons' h3 .nil
    exact tree_fun hX (hp.app hO) wide dpT3 (by kernel_rfl) rfl (All.ret (R := (· = _)) (tup2 (by unfold dpN; rw [e1]; rfl) e1.symm)) W
  by_cases h4 : 5 < k
  · rw [if_pos (by omega)] at e1
    have hp : PC.Ok (envX [a, b, c, d, x, y, z, u, v, w, k, m] [chkH a b c d, chkB x y z u v w, loE a b c d x y z u v w, hiE a b c d x y z u v w]) [(.lt (.lit 5) (.at 10), true)] := .cons' h4 .nil
    exact tree_fun hX (hp.app hO) wide dpT4 (by kernel_rfl) rfl (All.ret (R := (· = _)) (tup2 (by unfold dpN; rw [e1]; rfl) e1.symm)) W
  clear e1
  have hb := hi_bd h1 h2
  have hr : ∀ k : Int, PC.Ok (envX [a, b, c, d, x, y, z, u, v, w, k, m] [chkH a b c d, chkB x y z u v w, loE a b c d x y z u v w, hiE a b c d x y z u v w]) r23 := fun _ => rg_ok hb.1 hb.2
  rcases six (k := k) (by omega) (by omega) with rfl | rfl | rfl | rfl | rfl | rfl
  · exact tree_fun hX ((hr _).app hO) wide dpK0 (by kernel_rfl) rfl (dpTree_all rfl h0 (by omega) (by omega)) W
  · exact tree_fun hX ((hr _).app hO) wide dpK1 (by kernel_rfl) rfl (dpTree_all rfl h0 (by omega) (by omega)) W
  · exact tree_fun hX ((hr _).app hO) wide dpK2 (by kernel_rfl) rfl (dpTree_all rfl h0 (by omega) (by omega)) W
  · exact tree_fun hX ((hr _).app hO) wide dpK3 (by kernel_rfl) rfl (dpTree_all rfl h0 (by omega) (by omega)) W
  · exact tree_fun hX ((hr _).app hO) wide dpK4 (by kernel_rfl) rfl (dpTree_all rfl h0 (by omega) (by omega)) W
  · exact tree_fun hX ((hr _).app hO) wide dpK5 (by kernel_rfl) rfl (dpTree_all rfl h0 (by omega) (by omega)) W
def mvX (k x n : Int) : Int := if k = 0 then x + n else if k = 1 then x + (0 - n) else x
def mvY (k x n : Int) : Int := if k = 2 then x + n else if k = 3 then x + (0 - n) else x
def mvZ (k x n : Int) : Int := if k = 4 then x + n else if k = 5 then x + (0 - n) else x
def rM : PC := rB ++ rg 11 0 1000001
theorem mvT0 : tree Try.prog [] rM 300 20 32 [.agg (iv 4 6), li 0, i1 11] = .ret (.agg [.int .i64 (.add (.at 4) (.at 11)), .int .i64 (.at 5), .int .i64 (.at 6), .int .i64 (.add (.at 7) (.at 11)), .int .i64 (.at 8), .int .i64 (.at 9)]) := by kernel_rfl
theorem mvT1 : tree Try.prog [] rM 300 20 32 [.agg (iv 4 6), li 1, i1 11] = .ret (.agg [.int .i64 (.add (.at 4) (.sub (.lit 0) (.at 11))), .int .i64 (.at 5), .int .i64 (.at 6), .int .i64 (.add (.at 7) (.sub (.lit 0) (.at 11))), .int .i64 (.at 8), .int .i64 (.at 9)]) := by kernel_rfl
theorem mvT2 : tree Try.prog [] rM 300 20 32 [.agg (iv 4 6), li 2, i1 11] = .ret (.agg [.int .i64 (.at 4), .int .i64 (.add (.at 5) (.at 11)), .int .i64 (.at 6), .int .i64 (.at 7), .int .i64 (.add (.at 8) (.at 11)), .int .i64 (.at 9)]) := by kernel_rfl
theorem mvT3 : tree Try.prog [] rM 300 20 32 [.agg (iv 4 6), li 3, i1 11] = .ret (.agg [.int .i64 (.at 4), .int .i64 (.add (.at 5) (.sub (.lit 0) (.at 11))), .int .i64 (.at 6), .int .i64 (.at 7), .int .i64 (.add (.at 8) (.sub (.lit 0) (.at 11))), .int .i64 (.at 9)]) := by kernel_rfl
theorem mvT4 : tree Try.prog [] rM 300 20 32 [.agg (iv 4 6), li 4, i1 11] = .ret (.agg [.int .i64 (.at 4), .int .i64 (.at 5), .int .i64 (.add (.at 6) (.at 11)), .int .i64 (.at 7), .int .i64 (.at 8), .int .i64 (.add (.at 9) (.at 11))]) := by kernel_rfl
theorem mvT5 : tree Try.prog [] rM 300 20 32 [.agg (iv 4 6), li 5, i1 11] = .ret (.agg [.int .i64 (.at 4), .int .i64 (.at 5), .int .i64 (.add (.at 6) (.sub (.lit 0) (.at 11))), .int .i64 (.at 7), .int .i64 (.at 8), .int .i64 (.add (.at 9) (.sub (.lit 0) (.at 11)))]) := by kernel_rfl
theorem moved_any {x y z u v w k n : Int} (h2 : chkB x y z u v w = 0) (hk : 0 ≤ k) (hk5 : k ≤ 5) (hn : 0 ≤ n) (hn5 : n ≤ 1000001) (W : World) : Calls Try.prog 32 #[.agg #[.int .i64 x, .int .i64 y, .int .i64 z, .int .i64 u, .int .i64 v, .int .i64 w], .int .i64 k, .int .i64 n] W fun e w' =>
    e = .returned (.agg #[.int .i64 (mvX k x n), .int .i64 (mvY k y n), .int .i64 (mvZ k z n), .int .i64 (mvX k u n), .int .i64 (mvY k v n), .int .i64 (mvZ k w n)]) ∧ Below W.heap.size W w' := by
  have hp : ∀ k, PC.Ok (envX [0, 0, 0, 0, x, y, z, u, v, w, k, n] []) rM := fun k => PC.Ok.app (rB_ok h2) (rg_ok hn hn5)
  rcases six hk hk5 with rfl | rfl | rfl | rfl | rfl | rfl
  · exact tree_fun (ρ := envX [0, 0, 0, 0, x, y, z, u, v, w, 0, n] []) .nil (hp _) wide mvT0 (by kernel_rfl) rfl (All.ret rfl) W
  · exact tree_fun (ρ := envX [0, 0, 0, 0, x, y, z, u, v, w, 1, n] []) .nil (hp _) wide mvT1 (by kernel_rfl) rfl (All.ret rfl) W
  · exact tree_fun (ρ := envX [0, 0, 0, 0, x, y, z, u, v, w, 2, n] []) .nil (hp _) wide mvT2 (by kernel_rfl) rfl (All.ret rfl) W
  · exact tree_fun (ρ := envX [0, 0, 0, 0, x, y, z, u, v, w, 3, n] []) .nil (hp _) wide mvT3 (by kernel_rfl) rfl (All.ret rfl) W
  · exact tree_fun (ρ := envX [0, 0, 0, 0, x, y, z, u, v, w, 4, n] []) .nil (hp _) wide mvT4 (by kernel_rfl) rfl (All.ret rfl) W
  · exact tree_fun (ρ := envX [0, 0, 0, 0, x, y, z, u, v, w, 5, n] []) .nil (hp _) wide mvT5 (by kernel_rfl) rfl (All.ret rfl) W
end Go.Proofs.Ytdcblfibkoiflaa
