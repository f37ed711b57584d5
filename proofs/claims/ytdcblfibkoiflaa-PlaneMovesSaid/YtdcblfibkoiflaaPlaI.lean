/- The walk of PlaneMoves. -/
import Derived.Test.YtdcblfibkoiflaaPlaH
namespace Go.Proofs.Ytdcblfibkoiflaa
open Go.RowKit
theorem mx_shift (p q k : Int) : mxI (p + k) (q + k) = mxI p q + k := by unfold mxI; split <;> split <;> omega
theorem hi_moved {a b c d x y z u v w k n : Int} (h1 : 0 ≤ k) (h2 : k ≤ 5) : hiE a b c d (mvX k x n) (mvY k y n) (mvZ k z n) (mvX k u n) (mvY k v n) (mvZ k w n) = hiE a b c d x y z u v w + slopeS k a b c * n := by
  rcases six h1 h2 with rfl | rfl | rfl | rfl | rfl | rfl
  · show 0 - d + mxI (a * (x + n)) (a * (u + n)) + mxI (b * y) (b * v) + mxI (c * z) (c * w) = 0 - d + mxI (a * x) (a * u) + mxI (b * y) (b * v) + mxI (c * z) (c * w) + a * n
    rw [Int.mul_add, Int.mul_add, mx_shift]; omega
  · show 0 - d + mxI (a * (x + (0 - n))) (a * (u + (0 - n))) + mxI (b * y) (b * v) + mxI (c * z) (c * w) = 0 - d + mxI (a * x) (a * u) + mxI (b * y) (b * v) + mxI (c * z) (c * w) + (0 - a) * n
    have e : a * (0 - n) = (0 - a) * n := by grind
    rw [Int.mul_add, Int.mul_add, mx_shift]; omega
  · show 0 - d + mxI (a * x) (a * u) + mxI (b * (y + n)) (b * (v + n)) + mxI (c * z) (c * w) = 0 - d + mxI (a * x) (a * u) + mxI (b * y) (b * v) + mxI (c * z) (c * w) + b * n
    rw [Int.mul_add, Int.mul_add, mx_shift]; omega
  · show 0 - d + mxI (a * x) (a * u) + mxI (b * (y + (0 - n))) (b * (v + (0 - n))) + mxI (c * z) (c * w) = 0 - d + mxI (a * x) (a * u) + mxI (b * y) (b * v) + mxI (c * z) (c * w) + (0 - b) * n
    have e : b * (0 - n) = (0 - b) * n := by grind
    rw [Int.mul_add, Int.mul_add, mx_shift]; omega
  · show 0 - d + mxI (a * x) (a * u) + mxI (b * y) (b * v) + mxI (c * (z + n)) (c * (w + n)) = 0 - d + mxI (a * x) (a * u) + mxI (b * y) (b * v) + mxI (c * z) (c * w) + c * n
    rw [Int.mul_add c, Int.mul_add c, mx_shift]; omega
  · show 0 - d + mxI (a * x) (a * u) + mxI (b * y) (b * v) + mxI (c * (z + (0 - n))) (c * (w + (0 - n))) = 0 - d + mxI (a * x) (a * u) + mxI (b * y) (b * v) + mxI (c * z) (c * w) + (0 - c) * n
    have e : c * (0 - n) = (0 - c) * n := by grind
    rw [Int.mul_add c, Int.mul_add c, mx_shift]; omega
theorem dp_facts {a b c d x y z u v w k m : Int} (h : dpE a b c d x y z u v w k m = 0) : chkH a b c d = 0 ∧ chkB x y z u v w = 0 ∧ (0 ≤ k ∧ k ≤ 5) ∧ (0 ≤ m ∧ m ≤ 1000000) ∧ (0 ≤ dpN a b c d x y z u v w k m ∧ dpN a b c d x y z u v w k m ≤ m) ∧
    hiE a b c d x y z u v w + slopeS k a b c * dpN a b c d x y z u v w k m ≤ 0 ∧ (dpN a b c d x y z u v w k m = m ∨ 0 < hiE a b c d x y z u v w + slopeS k a b c * (dpN a b c d x y z u v w k m + 1)) := by
  have hn : dpN a b c d x y z u v w k m = if slopeS k a b c ≤ 0 then m else mnI m (Int.tdiv (0 - hiE a b c d x y z u v w) (slopeS k a b c)) := if_pos h
  unfold dpE at h
  by_cases h0 : sdE a b c d x y z u v w = 0
  case neg => rw [if_neg h0] at h; exact absurd h h0
  rw [if_pos h0] at h
  by_cases h1 : k < 0 ∨ 5 < k ∨ m < 0 ∨ 1000000 < m
  · rw [if_pos h1] at h; omega
  rw [if_neg h1] at h
  by_cases h2 : 0 < hiE a b c d x y z u v w
  · rw [if_pos h2] at h; omega
  unfold sdE at h0
  by_cases h3 : chkH a b c d = 0
  case neg => rw [if_neg h3] at h0; exact absurd h0 h3
  rw [if_pos h3] at h0
  refine ⟨h3, h0, by omega, by omega, ?_⟩
  generalize dpN a b c d x y z u v w k m = n at hn ⊢
  generalize slopeS k a b c = s at hn ⊢
  by_cases h4 : s ≤ 0
  · rw [if_pos h4] at hn
    subst hn
    have := Int.mul_nonneg (by omega : 0 ≤ 0 - s) (by omega : 0 ≤ n)
    rw [Int.sub_mul] at this
    omega
  · rw [if_neg h4, Int.tdiv_eq_ediv_of_nonneg (by omega)] at hn
    have hq : 0 ≤ (0 - hiE a b c d x y z u v w) / s := Int.ediv_nonneg (by omega) (by omega)
    have m1 := mnI_spec m ((0 - hiE a b c d x y z u v w) / s)
    have l1 : n * s ≤ 0 - hiE a b c d x y z u v w := (Int.le_ediv_iff_mul_le (by omega)).1 (by omega)
    have c1 := Int.mul_comm s n
    refine ⟨by omega, by omega, ?_⟩
    by_cases h5 : n = m
    · exact .inl h5
    · refine .inr (Int.not_le.1 fun hc => ?_)
      have c2 := Int.mul_comm s (n + 1)
      have : n + 1 ≤ (0 - hiE a b c d x y z u v w) / s := (Int.le_ediv_iff_mul_le (by omega)).2 (by omega)
      omega
def moD : Con := [(12, [], .one (.bool (.lit true))), (30, [.agg (iv 0 4), .agg (iv 4 6), i1 10, i1 11], .tup [⟨false, [.int .i64 (.at 20)]⟩, ⟨false, [.int .i64 (.at 21)]⟩])]
def moM : Con := [(32, [.agg (iv 4 6), i1 10, i1 20], .agg (iv 22 6)), (32, [.agg (iv 4 6), i1 10, .one (.int .i64 (.add (.at 20) (.lit 1)))], .agg (iv 30 6)),
  (19, [.agg (iv 0 4), .agg (iv 22 6)], .tup [⟨false, [.int .i64 (.at 28)]⟩, ⟨false, [.int .i64 (.at 29)]⟩]), (19, [.agg (iv 0 4), .agg (iv 30 6)], .tup [⟨false, [.int .i64 (.at 36)]⟩, ⟨false, [.int .i64 (.at 37)]⟩])]
def fE : PC := [(.eq (.at 21) (.lit 0), false), (.eq (.at 20) (.lit 0), true)]
def fN : PC := [(.eq (.at 21) (.lit 0), true), (.lt (.at 20) (.lit 0), false), (.lt (.lit 1000000) (.at 20), false), (.lt (.at 11) (.at 20), false), (.lt (.at 10) (.lit 0), false), (.lt (.lit 5) (.at 10), false)]
def s1 : PC := [(.eq (.at 29) (.lit 0), false)]
def s2 : PC := [(.eq (.at 28) (.lit 1), true)]
def t1 : PC := [(.eq (.at 20) (.at 11), true)]
def t2 : PC := [(.eq (.at 37) (.lit 0), false)]
def t3 : PC := [(.eq (.at 36) (.lit 1), false)]
theorem moE : treeB Try.prog moD fE 300 20 11 [.agg (iv 0 4), .agg (iv 4 6), i1 10, i1 11] = .ret (.one (.bool (.lit true))) := by kernel_rfl
theorem moT11 : treeB Try.prog (moM ++ moD) (s1 ++ (t1 ++ fN)) 300 20 11 [.agg (iv 0 4), .agg (iv 4 6), i1 10, i1 11] = .ret (.one (.bool (.lit true))) := by kernel_rfl
theorem moT12 : treeB Try.prog (moM ++ moD) (s1 ++ (t2 ++ fN)) 300 20 11 [.agg (iv 0 4), .agg (iv 4 6), i1 10, i1 11] = .ret (.one (.bool (.lit true))) := by kernel_rfl
theorem moT13 : treeB Try.prog (moM ++ moD) (s1 ++ (t3 ++ fN)) 300 20 11 [.agg (iv 0 4), .agg (iv 4 6), i1 10, i1 11] = .ret (.one (.bool (.lit true))) := by kernel_rfl
theorem moT21 : treeB Try.prog (moM ++ moD) (s2 ++ (t1 ++ fN)) 300 20 11 [.agg (iv 0 4), .agg (iv 4 6), i1 10, i1 11] = .ret (.one (.bool (.lit true))) := by kernel_rfl
theorem moT22 : treeB Try.prog (moM ++ moD) (s2 ++ (t2 ++ fN)) 300 20 11 [.agg (iv 0 4), .agg (iv 4 6), i1 10, i1 11] = .ret (.one (.bool (.lit true))) := by kernel_rfl
theorem moT23 : treeB Try.prog (moM ++ moD) (s2 ++ (t3 ++ fN)) 300 20 11 [.agg (iv 0 4), .agg (iv 4 6), i1 10, i1 11] = .ret (.one (.bool (.lit true))) := by kernel_rfl
theorem moves_walk (a b c d x y z u v w k m : Int) (W : World) : Calls Try.prog 11 #[.agg #[.int .i64 a, .int .i64 b, .int .i64 c, .int .i64 d], .agg #[.int .i64 x, .int .i64 y, .int .i64 z, .int .i64 u, .int .i64 v, .int .i64 w], .int .i64 k, .int .i64 m] W fun e w' => e = .returned (.bool true) ∧ Below W.heap.size W w' := by
  have hD : ∀ ys, ConOk Try.prog (envX [a, b, c, d, x, y, z, u, v, w, k, m] (dpN a b c d x y z u v w k m :: dpE a b c d x y z u v w k m :: ys)) moD := fun ys => .cons (fun _ W => awake_any W) (.cons (fun _ W => pDepth_any a b c d x y z u v w k m W) .nil)
  by_cases he : dpE a b c d x y z u v w k m = 0
  case neg =>
    have hn : dpN a b c d x y z u v w k m = 0 := if_neg he
    have hp : PC.Ok (envX [a, b, c, d, x, y, z, u, v, w, k, m] (dpN a b c d x y z u v w k m :: dpE a b c d x y z u v w k m :: [])) fE := .cons' he (.cons' hn .nil)
    exact tree_law (hD []) hp wide moE (by kernel_rfl) rfl Good.yes W
  obtain ⟨q1, q2, ⟨k1, k2⟩, ⟨m1, m2⟩, ⟨n1, n2⟩, hin, hout⟩ := dp_facts he
  have g1 := hi_moved (a := a) (b := b) (c := c) (d := d) (x := x) (y := y) (z := z) (u := u) (v := v) (w := w) (n := dpN a b c d x y z u v w k m) k1 k2
  have g2 := hi_moved (a := a) (b := b) (c := c) (d := d) (x := x) (y := y) (z := z) (u := u) (v := v) (w := w) (n := dpN a b c d x y z u v w k m + 1) k1 k2
  rw [← g1] at hin
  rw [← g2] at hout
  clear g1 g2
  have hM1 := fun W => moved_any (x := x) (y := y) (z := z) (u := u) (v := v) (w := w) q2 k1 k2 n1 (by omega) W
  have hM2 := fun W => moved_any (x := x) (y := y) (z := z) (u := u) (v := v) (w := w) q2 k1 k2 (n := dpN a b c d x y z u v w k m + 1) (by omega) (by omega) W
  have hD := hD [mvX k x (dpN a b c d x y z u v w k m), mvY k y (dpN a b c d x y z u v w k m), mvZ k z (dpN a b c d x y z u v w k m), mvX k u (dpN a b c d x y z u v w k m), mvY k v (dpN a b c d x y z u v w k m), mvZ k w (dpN a b c d x y z u v w k m), sdN a b c d (mvX k x (dpN a b c d x y z u v w k m)) (mvY k y (dpN a b c d x y z u v w k m)) (mvZ k z (dpN a b c d x y z u v w k m)) (mvX k u (dpN a b c d x y z u v w k m)) (mvY k v (dpN a b c d x y z u v w k m)) (mvZ k w (dpN a b c d x y z u v w k m)), sdE a b c d (mvX k x (dpN a b c d x y z u v w k m)) (mvY k y (dpN a b c d x y z u v w k m)) (mvZ k z (dpN a b c d x y z u v w k m)) (mvX k u (dpN a b c d x y z u v w k m)) (mvY k v (dpN a b c d x y z u v w k m)) (mvZ k w (dpN a b c d x y z u v w k m)), mvX k x (dpN a b c d x y z u v w k m + 1), mvY k y (dpN a b c d x y z u v w k m + 1), mvZ k z (dpN a b c d x y z u v w k m + 1), mvX k u (dpN a b c d x y z u v w k m + 1), mvY k v (dpN a b c d x y z u v w k m + 1), mvZ k w (dpN a b c d x y z u v w k m + 1), sdN a b c d (mvX k x (dpN a b c d x y z u v w k m + 1)) (mvY k y (dpN a b c d x y z u v w k m + 1)) (mvZ k z (dpN a b c d x y z u v w k m + 1)) (mvX k u (dpN a b c d x y z u v w k m + 1)) (mvY k v (dpN a b c d x y z u v w k m + 1)) (mvZ k w (dpN a b c d x y z u v w k m + 1)), sdE a b c d (mvX k x (dpN a b c d x y z u v w k m + 1)) (mvY k y (dpN a b c d x y z u v w k m + 1)) (mvZ k z (dpN a b c d x y z u v w k m + 1)) (mvX k u (dpN a b c d x y z u v w k m + 1)) (mvY k v (dpN a b c d x y z u v w k m + 1)) (mvZ k w (dpN a b c d x y z u v w k m + 1))]
  have hN : PC.Ok (envX [a, b, c, d, x, y, z, u, v, w, k, m] (dpN a b c d x y z u v w k m :: dpE a b c d x y z u v w k m :: [mvX k x (dpN a b c d x y z u v w k m), mvY k y (dpN a b c d x y z u v w k m), mvZ k z (dpN a b c d x y z u v w k m), mvX k u (dpN a b c d x y z u v w k m), mvY k v (dpN a b c d x y z u v w k m), mvZ k w (dpN a b c d x y z u v w k m), sdN a b c d (mvX k x (dpN a b c d x y z u v w k m)) (mvY k y (dpN a b c d x y z u v w k m)) (mvZ k z (dpN a b c d x y z u v w k m)) (mvX k u (dpN a b c d x y z u v w k m)) (mvY k v (dpN a b c d x y z u v w k m)) (mvZ k w (dpN a b c d x y z u v w k m)), sdE a b c d (mvX k x (dpN a b c d x y z u v w k m)) (mvY k y (dpN a b c d x y z u v w k m)) (mvZ k z (dpN a b c d x y z u v w k m)) (mvX k u (dpN a b c d x y z u v w k m)) (mvY k v (dpN a b c d x y z u v w k m)) (mvZ k w (dpN a b c d x y z u v w k m)), mvX k x (dpN a b c d x y z u v w k m + 1), mvY k y (dpN a b c d x y z u v w k m + 1), mvZ k z (dpN a b c d x y z u v w k m + 1), mvX k u (dpN a b c d x y z u v w k m + 1), mvY k v (dpN a b c d x y z u v w k m + 1), mvZ k w (dpN a b c d x y z u v w k m + 1), sdN a b c d (mvX k x (dpN a b c d x y z u v w k m + 1)) (mvY k y (dpN a b c d x y z u v w k m + 1)) (mvZ k z (dpN a b c d x y z u v w k m + 1)) (mvX k u (dpN a b c d x y z u v w k m + 1)) (mvY k v (dpN a b c d x y z u v w k m + 1)) (mvZ k w (dpN a b c d x y z u v w k m + 1)), sdE a b c d (mvX k x (dpN a b c d x y z u v w k m + 1)) (mvY k y (dpN a b c d x y z u v w k m + 1)) (mvZ k z (dpN a b c d x y z u v w k m + 1)) (mvX k u (dpN a b c d x y z u v w k m + 1)) (mvY k v (dpN a b c d x y z u v w k m + 1)) (mvZ k w (dpN a b c d x y z u v w k m + 1))])) fN :=
    .cons' he (.cons' n1 (.cons' (show dpN a b c d x y z u v w k m ≤ 1000000 by omega) (.cons' n2 (.cons' k1 (.cons' k2 .nil)))))
  generalize dpE a b c d x y z u v w k m = E at *
  generalize dpN a b c d x y z u v w k m = n at *
  have hM : ConOk Try.prog (envX [a, b, c, d, x, y, z, u, v, w, k, m] (n :: E :: [mvX k x n, mvY k y n, mvZ k z n, mvX k u n, mvY k v n, mvZ k w n, sdN a b c d (mvX k x n) (mvY k y n) (mvZ k z n) (mvX k u n) (mvY k v n) (mvZ k w n), sdE a b c d (mvX k x n) (mvY k y n) (mvZ k z n) (mvX k u n) (mvY k v n) (mvZ k w n), mvX k x (n + 1), mvY k y (n + 1), mvZ k z (n + 1), mvX k u (n + 1), mvY k v (n + 1), mvZ k w (n + 1), sdN a b c d (mvX k x (n + 1)) (mvY k y (n + 1)) (mvZ k z (n + 1)) (mvX k u (n + 1)) (mvY k v (n + 1)) (mvZ k w (n + 1)), sdE a b c d (mvX k x (n + 1)) (mvY k y (n + 1)) (mvZ k z (n + 1)) (mvX k u (n + 1)) (mvY k v (n + 1)) (mvZ k w (n + 1))])) moM :=
    .cons (fun _ W => hM1 W) (.cons (fun _ W => hM2 W) (.cons (fun _ W => pSide_any _ _ _ _ _ _ _ _ _ _ W) (.cons (fun _ W => pSide_any _ _ _ _ _ _ _ _ _ _ W) .nil)))
  clear hM1 hM2
  have hS : PC.Ok (envX [a, b, c, d, x, y, z, u, v, w, k, m] (n :: E :: [mvX k x n, mvY k y n, mvZ k z n, mvX k u n, mvY k v n, mvZ k w n, sdN a b c d (mvX k x n) (mvY k y n) (mvZ k z n) (mvX k u n) (mvY k v n) (mvZ k w n), sdE a b c d (mvX k x n) (mvY k y n) (mvZ k z n) (mvX k u n) (mvY k v n) (mvZ k w n), mvX k x (n + 1), mvY k y (n + 1), mvZ k z (n + 1), mvX k u (n + 1), mvY k v (n + 1), mvZ k w (n + 1), sdN a b c d (mvX k x (n + 1)) (mvY k y (n + 1)) (mvZ k z (n + 1)) (mvX k u (n + 1)) (mvY k v (n + 1)) (mvZ k w (n + 1)), sdE a b c d (mvX k x (n + 1)) (mvY k y (n + 1)) (mvZ k z (n + 1)) (mvX k u (n + 1)) (mvY k v (n + 1)) (mvZ k w (n + 1))])) s1 ∨ PC.Ok (envX [a, b, c, d, x, y, z, u, v, w, k, m] (n :: E :: [mvX k x n, mvY k y n, mvZ k z n, mvX k u n, mvY k v n, mvZ k w n, sdN a b c d (mvX k x n) (mvY k y n) (mvZ k z n) (mvX k u n) (mvY k v n) (mvZ k w n), sdE a b c d (mvX k x n) (mvY k y n) (mvZ k z n) (mvX k u n) (mvY k v n) (mvZ k w n), mvX k x (n + 1), mvY k y (n + 1), mvZ k z (n + 1), mvX k u (n + 1), mvY k v (n + 1), mvZ k w (n + 1), sdN a b c d (mvX k x (n + 1)) (mvY k y (n + 1)) (mvZ k z (n + 1)) (mvX k u (n + 1)) (mvY k v (n + 1)) (mvZ k w (n + 1)), sdE a b c d (mvX k x (n + 1)) (mvY k y (n + 1)) (mvZ k z (n + 1)) (mvX k u (n + 1)) (mvY k v (n + 1)) (mvZ k w (n + 1))])) s2 := by
    by_cases h : sdE a b c d (mvX k x n) (mvY k y n) (mvZ k z n) (mvX k u n) (mvY k v n) (mvZ k w n) = 0
    · have : sdN a b c d (mvX k x n) (mvY k y n) (mvZ k z n) (mvX k u n) (mvY k v n) (mvZ k w n) = 1 := by unfold sdN; rw [if_pos h, if_pos hin]
      exact .inr (.cons' this .nil)
    · exact .inl (.cons' h .nil)
  have hT : PC.Ok (envX [a, b, c, d, x, y, z, u, v, w, k, m] (n :: E :: [mvX k x n, mvY k y n, mvZ k z n, mvX k u n, mvY k v n, mvZ k w n, sdN a b c d (mvX k x n) (mvY k y n) (mvZ k z n) (mvX k u n) (mvY k v n) (mvZ k w n), sdE a b c d (mvX k x n) (mvY k y n) (mvZ k z n) (mvX k u n) (mvY k v n) (mvZ k w n), mvX k x (n + 1), mvY k y (n + 1), mvZ k z (n + 1), mvX k u (n + 1), mvY k v (n + 1), mvZ k w (n + 1), sdN a b c d (mvX k x (n + 1)) (mvY k y (n + 1)) (mvZ k z (n + 1)) (mvX k u (n + 1)) (mvY k v (n + 1)) (mvZ k w (n + 1)), sdE a b c d (mvX k x (n + 1)) (mvY k y (n + 1)) (mvZ k z (n + 1)) (mvX k u (n + 1)) (mvY k v (n + 1)) (mvZ k w (n + 1))])) t1 ∨ PC.Ok (envX [a, b, c, d, x, y, z, u, v, w, k, m] (n :: E :: [mvX k x n, mvY k y n, mvZ k z n, mvX k u n, mvY k v n, mvZ k w n, sdN a b c d (mvX k x n) (mvY k y n) (mvZ k z n) (mvX k u n) (mvY k v n) (mvZ k w n), sdE a b c d (mvX k x n) (mvY k y n) (mvZ k z n) (mvX k u n) (mvY k v n) (mvZ k w n), mvX k x (n + 1), mvY k y (n + 1), mvZ k z (n + 1), mvX k u (n + 1), mvY k v (n + 1), mvZ k w (n + 1), sdN a b c d (mvX k x (n + 1)) (mvY k y (n + 1)) (mvZ k z (n + 1)) (mvX k u (n + 1)) (mvY k v (n + 1)) (mvZ k w (n + 1)), sdE a b c d (mvX k x (n + 1)) (mvY k y (n + 1)) (mvZ k z (n + 1)) (mvX k u (n + 1)) (mvY k v (n + 1)) (mvZ k w (n + 1))])) t2 ∨
      PC.Ok (envX [a, b, c, d, x, y, z, u, v, w, k, m] (n :: E :: [mvX k x n, mvY k y n, mvZ k z n, mvX k u n, mvY k v n, mvZ k w n, sdN a b c d (mvX k x n) (mvY k y n) (mvZ k z n) (mvX k u n) (mvY k v n) (mvZ k w n), sdE a b c d (mvX k x n) (mvY k y n) (mvZ k z n) (mvX k u n) (mvY k v n) (mvZ k w n), mvX k x (n + 1), mvY k y (n + 1), mvZ k z (n + 1), mvX k u (n + 1), mvY k v (n + 1), mvZ k w (n + 1), sdN a b c d (mvX k x (n + 1)) (mvY k y (n + 1)) (mvZ k z (n + 1)) (mvX k u (n + 1)) (mvY k v (n + 1)) (mvZ k w (n + 1)), sdE a b c d (mvX k x (n + 1)) (mvY k y (n + 1)) (mvZ k z (n + 1)) (mvX k u (n + 1)) (mvY k v (n + 1)) (mvZ k w (n + 1))])) t3 := by
    rcases hout with ho | ho
    · exact .inl (.cons' ho .nil)
    · by_cases h : sdE a b c d (mvX k x (n + 1)) (mvY k y (n + 1)) (mvZ k z (n + 1)) (mvX k u (n + 1)) (mvY k v (n + 1)) (mvZ k w (n + 1)) = 0
      · have : ¬ sdN a b c d (mvX k x (n + 1)) (mvY k y (n + 1)) (mvZ k z (n + 1)) (mvX k u (n + 1)) (mvY k v (n + 1)) (mvZ k w (n + 1)) = 1 := by
          unfold sdN
          rw [if_pos h, if_neg (by omega)]
          split <;> omega
        exact .inr (.inr (.cons' this .nil))
      · exact .inr (.inl (.cons' h .nil))
  rcases hS with hS | hS <;> rcases hT with hT | hT | hT
  · exact tree_law (hM.app hD) (hS.app (hT.app hN)) wide moT11 (by kernel_rfl) rfl Good.yes W
  · exact tree_law (hM.app hD) (hS.app (hT.app hN)) wide moT12 (by kernel_rfl) rfl Good.yes W
  · exact tree_law (hM.app hD) (hS.app (hT.app hN)) wide moT13 (by kernel_rfl) rfl Good.yes W
  · exact tree_law (hM.app hD) (hS.app (hT.app hN)) wide moT21 (by kernel_rfl) rfl Good.yes W
  · exact tree_law (hM.app hD) (hS.app (hT.app hN)) wide moT22 (by kernel_rfl) rfl Good.yes W
  · exact tree_law (hM.app hD) (hS.app (hT.app hN)) wide moT23 (by kernel_rfl) rfl Good.yes W
end Go.Proofs.Ytdcblfibkoiflaa
