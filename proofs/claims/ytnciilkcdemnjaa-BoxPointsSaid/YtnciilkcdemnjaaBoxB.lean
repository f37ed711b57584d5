/- Valid boxes; a box that is moved. -/
import Derived.Test.YtnciilkcdemnjaaBoxA
namespace Go.Proofs.Ytnciilkcdemnjaa
open Go.RowKit
theorem w64 {n : Int} (h1 : -9223372036854775808 ≤ n) (h2 : n ≤ 9223372036854775807) : IntKind.wrap .i64 n = n := by rw [IntKind.wrap_i64]; omega
/-- A valid box. -/
def VB (x y z u v w : Int) : Prop := (-1000000 ≤ x ∧ x < u ∧ u ≤ 1000000) ∧ (-1000000 ≤ y ∧ y < v ∧ v ≤ 1000000) ∧ (-1000000 ≤ z ∧ z < w ∧ w ≤ 1000000)
def okA : PC := [(.lt (.at 0) (.lit (-1000000)), false), (.lt (.lit (1000000)) (.at 0), false), (.lt (.at 3) (.lit (-1000000)), false), (.lt (.lit (1000000)) (.at 3), false), (.lt (.at 1) (.lit (-1000000)), false), (.lt (.lit (1000000)) (.at 1), false), (.lt (.at 4) (.lit (-1000000)), false), (.lt (.lit (1000000)) (.at 4), false), (.lt (.at 2) (.lit (-1000000)), false), (.lt (.lit (1000000)) (.at 2), false), (.lt (.at 5) (.lit (-1000000)), false), (.lt (.lit (1000000)) (.at 5), false), (.lt (.at 0) (.at 3), true), (.lt (.at 1) (.at 4), true), (.lt (.at 2) (.at 5), true)]
theorem okA_ok {x y z u v w : Int} {xs ys : List Int} (h : VB x y z u v w) : PC.Ok (envX (x :: y :: z :: u :: v :: w :: xs) ys) okA := by
  obtain ⟨⟨h1, h2, h3⟩, ⟨h4, h5, h6⟩, h7, h8, h9⟩ := h
  exact (.cons' (show (-1000000) ≤ x by omega) (.cons' (show x ≤ (1000000 : Int) by omega) (.cons' (show (-1000000) ≤ u by omega) (.cons' (show u ≤ (1000000 : Int) by omega) (.cons' (show (-1000000) ≤ y by omega) (.cons' (show y ≤ (1000000 : Int) by omega) (.cons' (show (-1000000) ≤ v by omega) (.cons' (show v ≤ (1000000 : Int) by omega) (.cons' (show (-1000000) ≤ z by omega) (.cons' (show z ≤ (1000000 : Int) by omega) (.cons' (show (-1000000) ≤ w by omega) (.cons' (show w ≤ (1000000 : Int) by omega) (.cons' (show x < u by omega) (.cons' (show y < v by omega) (.cons' (show z < w by omega) .nil)))))))))))))))
def MvO (x y z u v w i j k : Int) : Prop := (-1000000 ≤ x + i ∧ u + i ≤ 1000000) ∧ (-1000000 ≤ y + j ∧ v + j ≤ 1000000) ∧ (-1000000 ≤ z + k ∧ w + k ≤ 1000000)
instance (x y z u v w i j k : Int) : Decidable (MvO x y z u v w i j k) := by unfold MvO; infer_instance
/-- What a move gives: a coordinate (n), the error. -/
def mvC (x y z u v w i j k n : Int) : Int := if MvO x y z u v w i j k then n else 0
def mvE (x y z u v w i j k : Int) : Int := if MvO x y z u v w i j k then 0 else 6
abbrev mvV (x y z u v w i j k : Int) : Value := .tuple #[.agg #[.int .i64 (mvC x y z u v w i j k (x + i)), .int .i64 (mvC x y z u v w i j k (y + j)), .int .i64 (mvC x y z u v w i j k (z + k)), .int .i64 (mvC x y z u v w i j k (u + i)), .int .i64 (mvC x y z u v w i j k (v + j)), .int .i64 (mvC x y z u v w i j k (w + k))], .int .i64 (mvE x y z u v w i j k)]
theorem mv_no {x y z u v w i j k : Int} (h : ¬ MvO x y z u v w i j k) : Value.tuple #[.agg #[.int .i64 0, .int .i64 0, .int .i64 0, .int .i64 0, .int .i64 0, .int .i64 0], .int .i64 6] = mvV x y z u v w i j k := by
  unfold mvV mvC mvE; simp only [if_neg h]
theorem mv_yes {x y z u v w i j k : Int} (h : MvO x y z u v w i j k) (hv : VB x y z u v w) : Value.tuple #[.agg #[.int .i64 (IntKind.wrap .i64 (x + i)), .int .i64 (IntKind.wrap .i64 (y + j)), .int .i64 (IntKind.wrap .i64 (z + k)), .int .i64 (IntKind.wrap .i64 (u + i)), .int .i64 (IntKind.wrap .i64 (v + j)), .int .i64 (IntKind.wrap .i64 (w + k))], .int .i64 0] = mvV x y z u v w i j k := by
  obtain ⟨⟨a1, a2, a3⟩, ⟨a4, a5, a6⟩, a7, a8, a9⟩ := hv
  have h' := h
  obtain ⟨⟨b1, b2⟩, ⟨b3, b4⟩, b5, b6⟩ := h'
  unfold mvV mvC mvE
  simp only [if_pos h]
  rw [w64 (n := x + i) (by omega) (by omega), w64 (n := y + j) (by omega) (by omega), w64 (n := z + k) (by omega) (by omega), w64 (n := u + i) (by omega) (by omega), w64 (n := v + j) (by omega) (by omega), w64 (n := w + k) (by omega) (by omega)]
theorem mv_plain {x y z u v w i j k : Int} (h : MvO x y z u v w i j k) : Value.tuple #[.agg #[.int .i64 (x + i), .int .i64 (y + j), .int .i64 (z + k), .int .i64 (u + i), .int .i64 (v + j), .int .i64 (w + k)], .int .i64 0] = mvV x y z u v w i j k := by
  unfold mvV mvC mvE
  simp only [if_pos h]
theorem bMove_tree : tree Try.prog [] okA 300 20 14 [.agg (iv 0 6), .agg (iv 12 3)] = (.br (.lt (.at 12) (.sub (.lit (-1000000)) (.at 0)))
 (.ret (.tup [⟨true, [(.int .i64 (.lit (0))), (.int .i64 (.lit (0))), (.int .i64 (.lit (0))), (.int .i64 (.lit (0))), (.int .i64 (.lit (0))), (.int .i64 (.lit (0)))]⟩, ⟨false, [(.int .i64 (.lit (6)))]⟩]))
 (.br (.lt (.sub (.lit (1000000)) (.at 3)) (.at 12))
 (.ret (.tup [⟨true, [(.int .i64 (.lit (0))), (.int .i64 (.lit (0))), (.int .i64 (.lit (0))), (.int .i64 (.lit (0))), (.int .i64 (.lit (0))), (.int .i64 (.lit (0)))]⟩, ⟨false, [(.int .i64 (.lit (6)))]⟩]))
 (.br (.lt (.at 13) (.sub (.lit (-1000000)) (.at 1)))
 (.ret (.tup [⟨true, [(.int .i64 (.lit (0))), (.int .i64 (.lit (0))), (.int .i64 (.lit (0))), (.int .i64 (.lit (0))), (.int .i64 (.lit (0))), (.int .i64 (.lit (0)))]⟩, ⟨false, [(.int .i64 (.lit (6)))]⟩]))
 (.br (.lt (.sub (.lit (1000000)) (.at 4)) (.at 13))
 (.ret (.tup [⟨true, [(.int .i64 (.lit (0))), (.int .i64 (.lit (0))), (.int .i64 (.lit (0))), (.int .i64 (.lit (0))), (.int .i64 (.lit (0))), (.int .i64 (.lit (0)))]⟩, ⟨false, [(.int .i64 (.lit (6)))]⟩]))
 (.br (.lt (.at 14) (.sub (.lit (-1000000)) (.at 2)))
 (.ret (.tup [⟨true, [(.int .i64 (.lit (0))), (.int .i64 (.lit (0))), (.int .i64 (.lit (0))), (.int .i64 (.lit (0))), (.int .i64 (.lit (0))), (.int .i64 (.lit (0)))]⟩, ⟨false, [(.int .i64 (.lit (6)))]⟩]))
 (.br (.lt (.sub (.lit (1000000)) (.at 5)) (.at 14))
 (.ret (.tup [⟨true, [(.int .i64 (.lit (0))), (.int .i64 (.lit (0))), (.int .i64 (.lit (0))), (.int .i64 (.lit (0))), (.int .i64 (.lit (0))), (.int .i64 (.lit (0)))]⟩, ⟨false, [(.int .i64 (.lit (6)))]⟩]))
 (.ret (.tup [⟨true, [(.int .i64 (.wr .i64 (.add (.at 0) (.at 12)))), (.int .i64 (.wr .i64 (.add (.at 1) (.at 13)))), (.int .i64 (.wr .i64 (.add (.at 2) (.at 14)))), (.int .i64 (.wr .i64 (.add (.at 3) (.at 12)))), (.int .i64 (.wr .i64 (.add (.at 4) (.at 13)))), (.int .i64 (.wr .i64 (.add (.at 5) (.at 14))))]⟩, ⟨false, [(.int .i64 (.lit (0)))]⟩])))))))) := by kernel_rfl
theorem bMove_any {x y z u v w : Int} (p q r s t e i j k : Int) (hv : VB x y z u v w) (W : World) : Calls Try.prog 14 #[.agg #[.int .i64 x, .int .i64 y, .int .i64 z, .int .i64 u, .int .i64 v, .int .i64 w], .agg #[.int .i64 i, .int .i64 j, .int .i64 k]] W fun e w' => e = .returned (mvV x y z u v w i j k) ∧ Below W.heap.size W w' := by
  refine tree_fun (ρ := envX [x, y, z, u, v, w, p, q, r, s, t, e, i, j, k] []) .nil (okA_ok hv) wide bMove_tree (by kernel_rfl) rfl (u := mvV x y z u v w i j k) ?_ W
  have HB := hv
  obtain ⟨⟨a1, a2, a3⟩, ⟨a4, a5, a6⟩, a7, a8, a9⟩ := hv
  refine All.br' (fun (h1 : i < ((-1000000) - x)) => ?_) (fun (h1 : ((-1000000) - x) ≤ i) => ?_)
  · exact All.ret (mv_no (x := x) (y := y) (z := z) (u := u) (v := v) (w := w) (i := i) (j := j) (k := k) (by unfold MvO; omega))
  · refine All.br' (fun (h2 : (1000000 - u) < i) => ?_) (fun (h2 : i ≤ (1000000 - u)) => ?_)
    · exact All.ret (mv_no (x := x) (y := y) (z := z) (u := u) (v := v) (w := w) (i := i) (j := j) (k := k) (by unfold MvO; omega))
    · refine All.br' (fun (h3 : j < ((-1000000) - y)) => ?_) (fun (h3 : ((-1000000) - y) ≤ j) => ?_)
      · exact All.ret (mv_no (x := x) (y := y) (z := z) (u := u) (v := v) (w := w) (i := i) (j := j) (k := k) (by unfold MvO; omega))
      · refine All.br' (fun (h4 : (1000000 - v) < j) => ?_) (fun (h4 : j ≤ (1000000 - v)) => ?_)
        · exact All.ret (mv_no (x := x) (y := y) (z := z) (u := u) (v := v) (w := w) (i := i) (j := j) (k := k) (by unfold MvO; omega))
        · refine All.br' (fun (h5 : k < ((-1000000) - z)) => ?_) (fun (h5 : ((-1000000) - z) ≤ k) => ?_)
          · exact All.ret (mv_no (x := x) (y := y) (z := z) (u := u) (v := v) (w := w) (i := i) (j := j) (k := k) (by unfold MvO; omega))
          · refine All.br' (fun (h6 : (1000000 - w) < k) => ?_) (fun (h6 : k ≤ (1000000 - w)) => ?_)
            · exact All.ret (mv_no (x := x) (y := y) (z := z) (u := u) (v := v) (w := w) (i := i) (j := j) (k := k) (by unfold MvO; omega))
            · exact All.ret (mv_yes (x := x) (y := y) (z := z) (u := u) (v := v) (w := w) (i := i) (j := j) (k := k) (by unfold MvO; omega) HB)
theorem rMove06_tree : tree Try.prog [] okA 300 20 18 [.agg (iv 0 6), .agg (iv 12 3)] = (.br (.lt (.at 12) (.lit (-2000000)))
 (.ret (.tup [⟨true, [(.int .i64 (.lit (0))), (.int .i64 (.lit (0))), (.int .i64 (.lit (0))), (.int .i64 (.lit (0))), (.int .i64 (.lit (0))), (.int .i64 (.lit (0)))]⟩, ⟨false, [(.int .i64 (.lit (6)))]⟩]))
 (.br (.lt (.lit (2000000)) (.at 12))
 (.ret (.tup [⟨true, [(.int .i64 (.lit (0))), (.int .i64 (.lit (0))), (.int .i64 (.lit (0))), (.int .i64 (.lit (0))), (.int .i64 (.lit (0))), (.int .i64 (.lit (0)))]⟩, ⟨false, [(.int .i64 (.lit (6)))]⟩]))
 (.br (.lt (.at 13) (.lit (-2000000)))
 (.ret (.tup [⟨true, [(.int .i64 (.lit (0))), (.int .i64 (.lit (0))), (.int .i64 (.lit (0))), (.int .i64 (.lit (0))), (.int .i64 (.lit (0))), (.int .i64 (.lit (0)))]⟩, ⟨false, [(.int .i64 (.lit (6)))]⟩]))
 (.br (.lt (.lit (2000000)) (.at 13))
 (.ret (.tup [⟨true, [(.int .i64 (.lit (0))), (.int .i64 (.lit (0))), (.int .i64 (.lit (0))), (.int .i64 (.lit (0))), (.int .i64 (.lit (0))), (.int .i64 (.lit (0)))]⟩, ⟨false, [(.int .i64 (.lit (6)))]⟩]))
 (.br (.lt (.at 14) (.lit (-2000000)))
 (.ret (.tup [⟨true, [(.int .i64 (.lit (0))), (.int .i64 (.lit (0))), (.int .i64 (.lit (0))), (.int .i64 (.lit (0))), (.int .i64 (.lit (0))), (.int .i64 (.lit (0)))]⟩, ⟨false, [(.int .i64 (.lit (6)))]⟩]))
 (.br (.lt (.lit (2000000)) (.at 14))
 (.ret (.tup [⟨true, [(.int .i64 (.lit (0))), (.int .i64 (.lit (0))), (.int .i64 (.lit (0))), (.int .i64 (.lit (0))), (.int .i64 (.lit (0))), (.int .i64 (.lit (0)))]⟩, ⟨false, [(.int .i64 (.lit (6)))]⟩]))
 (.br (.lt (.add (.at 0) (.at 12)) (.lit (-1000000)))
 (.ret (.tup [⟨true, [(.int .i64 (.lit (0))), (.int .i64 (.lit (0))), (.int .i64 (.lit (0))), (.int .i64 (.lit (0))), (.int .i64 (.lit (0))), (.int .i64 (.lit (0)))]⟩, ⟨false, [(.int .i64 (.lit (6)))]⟩]))
 (.br (.lt (.lit (1000000)) (.add (.at 0) (.at 12)))
 (.ret (.tup [⟨true, [(.int .i64 (.lit (0))), (.int .i64 (.lit (0))), (.int .i64 (.lit (0))), (.int .i64 (.lit (0))), (.int .i64 (.lit (0))), (.int .i64 (.lit (0)))]⟩, ⟨false, [(.int .i64 (.lit (6)))]⟩]))
 (.br (.lt (.add (.at 3) (.at 12)) (.lit (-1000000)))
 (.ret (.tup [⟨true, [(.int .i64 (.lit (0))), (.int .i64 (.lit (0))), (.int .i64 (.lit (0))), (.int .i64 (.lit (0))), (.int .i64 (.lit (0))), (.int .i64 (.lit (0)))]⟩, ⟨false, [(.int .i64 (.lit (6)))]⟩]))
 (.br (.lt (.lit (1000000)) (.add (.at 3) (.at 12)))
 (.ret (.tup [⟨true, [(.int .i64 (.lit (0))), (.int .i64 (.lit (0))), (.int .i64 (.lit (0))), (.int .i64 (.lit (0))), (.int .i64 (.lit (0))), (.int .i64 (.lit (0)))]⟩, ⟨false, [(.int .i64 (.lit (6)))]⟩]))
 (.br (.lt (.add (.at 1) (.at 13)) (.lit (-1000000)))
 (.ret (.tup [⟨true, [(.int .i64 (.lit (0))), (.int .i64 (.lit (0))), (.int .i64 (.lit (0))), (.int .i64 (.lit (0))), (.int .i64 (.lit (0))), (.int .i64 (.lit (0)))]⟩, ⟨false, [(.int .i64 (.lit (6)))]⟩]))
 (.br (.lt (.lit (1000000)) (.add (.at 1) (.at 13)))
 (.ret (.tup [⟨true, [(.int .i64 (.lit (0))), (.int .i64 (.lit (0))), (.int .i64 (.lit (0))), (.int .i64 (.lit (0))), (.int .i64 (.lit (0))), (.int .i64 (.lit (0)))]⟩, ⟨false, [(.int .i64 (.lit (6)))]⟩]))
 (.br (.lt (.add (.at 4) (.at 13)) (.lit (-1000000)))
 (.ret (.tup [⟨true, [(.int .i64 (.lit (0))), (.int .i64 (.lit (0))), (.int .i64 (.lit (0))), (.int .i64 (.lit (0))), (.int .i64 (.lit (0))), (.int .i64 (.lit (0)))]⟩, ⟨false, [(.int .i64 (.lit (6)))]⟩]))
 (.br (.lt (.lit (1000000)) (.add (.at 4) (.at 13)))
 (.ret (.tup [⟨true, [(.int .i64 (.lit (0))), (.int .i64 (.lit (0))), (.int .i64 (.lit (0))), (.int .i64 (.lit (0))), (.int .i64 (.lit (0))), (.int .i64 (.lit (0)))]⟩, ⟨false, [(.int .i64 (.lit (6)))]⟩]))
 (.br (.lt (.add (.at 2) (.at 14)) (.lit (-1000000)))
 (.ret (.tup [⟨true, [(.int .i64 (.lit (0))), (.int .i64 (.lit (0))), (.int .i64 (.lit (0))), (.int .i64 (.lit (0))), (.int .i64 (.lit (0))), (.int .i64 (.lit (0)))]⟩, ⟨false, [(.int .i64 (.lit (6)))]⟩]))
 (.br (.lt (.lit (1000000)) (.add (.at 2) (.at 14)))
 (.ret (.tup [⟨true, [(.int .i64 (.lit (0))), (.int .i64 (.lit (0))), (.int .i64 (.lit (0))), (.int .i64 (.lit (0))), (.int .i64 (.lit (0))), (.int .i64 (.lit (0)))]⟩, ⟨false, [(.int .i64 (.lit (6)))]⟩]))
 (.br (.lt (.add (.at 5) (.at 14)) (.lit (-1000000)))
 (.ret (.tup [⟨true, [(.int .i64 (.lit (0))), (.int .i64 (.lit (0))), (.int .i64 (.lit (0))), (.int .i64 (.lit (0))), (.int .i64 (.lit (0))), (.int .i64 (.lit (0)))]⟩, ⟨false, [(.int .i64 (.lit (6)))]⟩]))
 (.br (.lt (.lit (1000000)) (.add (.at 5) (.at 14)))
 (.ret (.tup [⟨true, [(.int .i64 (.lit (0))), (.int .i64 (.lit (0))), (.int .i64 (.lit (0))), (.int .i64 (.lit (0))), (.int .i64 (.lit (0))), (.int .i64 (.lit (0)))]⟩, ⟨false, [(.int .i64 (.lit (6)))]⟩]))
 (.br (.le (.add (.at 3) (.at 12)) (.add (.at 0) (.at 12)))
 (.ret (.tup [⟨true, [(.int .i64 (.lit (0))), (.int .i64 (.lit (0))), (.int .i64 (.lit (0))), (.int .i64 (.lit (0))), (.int .i64 (.lit (0))), (.int .i64 (.lit (0)))]⟩, ⟨false, [(.int .i64 (.lit (1)))]⟩]))
 (.br (.le (.add (.at 4) (.at 13)) (.add (.at 1) (.at 13)))
 (.ret (.tup [⟨true, [(.int .i64 (.lit (0))), (.int .i64 (.lit (0))), (.int .i64 (.lit (0))), (.int .i64 (.lit (0))), (.int .i64 (.lit (0))), (.int .i64 (.lit (0)))]⟩, ⟨false, [(.int .i64 (.lit (1)))]⟩]))
 (.br (.le (.add (.at 5) (.at 14)) (.add (.at 2) (.at 14)))
 (.ret (.tup [⟨true, [(.int .i64 (.lit (0))), (.int .i64 (.lit (0))), (.int .i64 (.lit (0))), (.int .i64 (.lit (0))), (.int .i64 (.lit (0))), (.int .i64 (.lit (0)))]⟩, ⟨false, [(.int .i64 (.lit (1)))]⟩]))
 (.ret (.tup [⟨true, [(.int .i64 (.add (.at 0) (.at 12))), (.int .i64 (.add (.at 1) (.at 13))), (.int .i64 (.add (.at 2) (.at 14))), (.int .i64 (.add (.at 3) (.at 12))), (.int .i64 (.add (.at 4) (.at 13))), (.int .i64 (.add (.at 5) (.at 14)))]⟩, ⟨false, [(.int .i64 (.lit (0)))]⟩]))))))))))))))))))))))) := by kernel_rfl
theorem rMove06_any {x y z u v w : Int} (p q r s t e i j k : Int) (hv : VB x y z u v w) (W : World) : Calls Try.prog 18 #[.agg #[.int .i64 x, .int .i64 y, .int .i64 z, .int .i64 u, .int .i64 v, .int .i64 w], .agg #[.int .i64 i, .int .i64 j, .int .i64 k]] W fun e w' => e = .returned (mvV x y z u v w i j k) ∧ Below W.heap.size W w' := by
  refine tree_fun (ρ := envX [x, y, z, u, v, w, p, q, r, s, t, e, i, j, k] []) .nil (okA_ok hv) wide rMove06_tree (by kernel_rfl) rfl (u := mvV x y z u v w i j k) ?_ W
  have HB := hv
  obtain ⟨⟨a1, a2, a3⟩, ⟨a4, a5, a6⟩, a7, a8, a9⟩ := hv
  refine All.br' (fun (h1 : i < (-2000000)) => ?_) (fun (h1 : (-2000000) ≤ i) => ?_)
  · exact All.ret (mv_no (x := x) (y := y) (z := z) (u := u) (v := v) (w := w) (i := i) (j := j) (k := k) (by unfold MvO; omega))
  · refine All.br' (fun (h2 : (2000000 : Int) < i) => ?_) (fun (h2 : i ≤ (2000000 : Int)) => ?_)
    · exact All.ret (mv_no (x := x) (y := y) (z := z) (u := u) (v := v) (w := w) (i := i) (j := j) (k := k) (by unfold MvO; omega))
    · refine All.br' (fun (h3 : j < (-2000000)) => ?_) (fun (h3 : (-2000000) ≤ j) => ?_)
      · exact All.ret (mv_no (x := x) (y := y) (z := z) (u := u) (v := v) (w := w) (i := i) (j := j) (k := k) (by unfold MvO; omega))
      · refine All.br' (fun (h4 : (2000000 : Int) < j) => ?_) (fun (h4 : j ≤ (2000000 : Int)) => ?_)
        · exact All.ret (mv_no (x := x) (y := y) (z := z) (u := u) (v := v) (w := w) (i := i) (j := j) (k := k) (by unfold MvO; omega))
        · refine All.br' (fun (h5 : k < (-2000000)) => ?_) (fun (h5 : (-2000000) ≤ k) => ?_)
          · exact All.ret (mv_no (x := x) (y := y) (z := z) (u := u) (v := v) (w := w) (i := i) (j := j) (k := k) (by unfold MvO; omega))
          · refine All.br' (fun (h6 : (2000000 : Int) < k) => ?_) (fun (h6 : k ≤ (2000000 : Int)) => ?_)
            · exact All.ret (mv_no (x := x) (y := y) (z := z) (u := u) (v := v) (w := w) (i := i) (j := j) (k := k) (by unfold MvO; omega))
            · refine All.br' (fun (h7 : (x + i) < (-1000000)) => ?_) (fun (h7 : (-1000000) ≤ (x + i)) => ?_)
              · exact All.ret (mv_no (x := x) (y := y) (z := z) (u := u) (v := v) (w := w) (i := i) (j := j) (k := k) (by unfold MvO; omega))
              · refine All.br' (fun (h8 : (1000000 : Int) < (x + i)) => ?_) (fun (h8 : (x + i) ≤ (1000000 : Int)) => ?_)
                · exact All.ret (mv_no (x := x) (y := y) (z := z) (u := u) (v := v) (w := w) (i := i) (j := j) (k := k) (by unfold MvO; omega))
                · refine All.br' (fun (h9 : (u + i) < (-1000000)) => ?_) (fun (h9 : (-1000000) ≤ (u + i)) => ?_)
                  · exact All.ret (mv_no (x := x) (y := y) (z := z) (u := u) (v := v) (w := w) (i := i) (j := j) (k := k) (by unfold MvO; omega))
                  · refine All.br' (fun (h10 : (1000000 : Int) < (u + i)) => ?_) (fun (h10 : (u + i) ≤ (1000000 : Int)) => ?_)
                    · exact All.ret (mv_no (x := x) (y := y) (z := z) (u := u) (v := v) (w := w) (i := i) (j := j) (k := k) (by unfold MvO; omega))
                    · refine All.br' (fun (h11 : (y + j) < (-1000000)) => ?_) (fun (h11 : (-1000000) ≤ (y + j)) => ?_)
                      · exact All.ret (mv_no (x := x) (y := y) (z := z) (u := u) (v := v) (w := w) (i := i) (j := j) (k := k) (by unfold MvO; omega))
                      · refine All.br' (fun (h12 : (1000000 : Int) < (y + j)) => ?_) (fun (h12 : (y + j) ≤ (1000000 : Int)) => ?_)
                        · exact All.ret (mv_no (x := x) (y := y) (z := z) (u := u) (v := v) (w := w) (i := i) (j := j) (k := k) (by unfold MvO; omega))
                        · refine All.br' (fun (h13 : (v + j) < (-1000000)) => ?_) (fun (h13 : (-1000000) ≤ (v + j)) => ?_)
                          · exact All.ret (mv_no (x := x) (y := y) (z := z) (u := u) (v := v) (w := w) (i := i) (j := j) (k := k) (by unfold MvO; omega))
                          · refine All.br' (fun (h14 : (1000000 : Int) < (v + j)) => ?_) (fun (h14 : (v + j) ≤ (1000000 : Int)) => ?_)
                            · exact All.ret (mv_no (x := x) (y := y) (z := z) (u := u) (v := v) (w := w) (i := i) (j := j) (k := k) (by unfold MvO; omega))
                            · refine All.br' (fun (h15 : (z + k) < (-1000000)) => ?_) (fun (h15 : (-1000000) ≤ (z + k)) => ?_)
                              · exact All.ret (mv_no (x := x) (y := y) (z := z) (u := u) (v := v) (w := w) (i := i) (j := j) (k := k) (by unfold MvO; omega))
                              · refine All.br' (fun (h16 : (1000000 : Int) < (z + k)) => ?_) (fun (h16 : (z + k) ≤ (1000000 : Int)) => ?_)
                                · exact All.ret (mv_no (x := x) (y := y) (z := z) (u := u) (v := v) (w := w) (i := i) (j := j) (k := k) (by unfold MvO; omega))
                                · refine All.br' (fun (h17 : (w + k) < (-1000000)) => ?_) (fun (h17 : (-1000000) ≤ (w + k)) => ?_)
                                  · exact All.ret (mv_no (x := x) (y := y) (z := z) (u := u) (v := v) (w := w) (i := i) (j := j) (k := k) (by unfold MvO; omega))
                                  · refine All.br' (fun (h18 : (1000000 : Int) < (w + k)) => ?_) (fun (h18 : (w + k) ≤ (1000000 : Int)) => ?_)
                                    · exact All.ret (mv_no (x := x) (y := y) (z := z) (u := u) (v := v) (w := w) (i := i) (j := j) (k := k) (by unfold MvO; omega))
                                    · refine All.br' (fun (h19 : (u + i) ≤ (x + i)) => ?_) (fun (h19 : (x + i) < (u + i)) => ?_)
                                      · exact absurd (show False by omega) id
                                      · refine All.br' (fun (h20 : (v + j) ≤ (y + j)) => ?_) (fun (h20 : (y + j) < (v + j)) => ?_)
                                        · exact absurd (show False by omega) id
                                        · refine All.br' (fun (h21 : (w + k) ≤ (z + k)) => ?_) (fun (h21 : (z + k) < (w + k)) => ?_)
                                          · exact absurd (show False by omega) id
                                          · exact All.ret (mv_plain (x := x) (y := y) (z := z) (u := u) (v := v) (w := w) (i := i) (j := j) (k := k) (by unfold MvO; omega))
end Go.Proofs.Ytnciilkcdemnjaa
