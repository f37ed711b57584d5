/- What relates two boxes: Has, Inside, Overlap of both sides; the walk of BoxRelates. -/
import Derived.Test.YtnciilkcdemnjaaBoxB
namespace Go.Proofs.Ytnciilkcdemnjaa
open Go.RowKit
theorem ConOk.app' {P : Program} {ρ : EnvS} {x y : Con} (hx : ConOk P ρ x) (hy : ConOk P ρ y) : ConOk P ρ (x ++ y) := by
  intro f ar v hm
  rcases List.mem_append.1 hm with h | h
  · exact hx f ar v h
  · exact hy f ar v h
/-- A truth value as a number. -/
def tr (b : Bool) : Int := if b then 1 else 0
theorem tr1 (b : Bool) : (tr b == 1) = b := by cases b <;> rfl
theorem v_yes {P : Prop} [Decidable P] (h : P) : Value.bool true = Value.bool (tr (decide P) == 1) := by rw [tr1, decide_eq_true h]
theorem v_no {P : Prop} [Decidable P] (h : ¬ P) : Value.bool false = Value.bool (tr (decide P) == 1) := by rw [tr1, decide_eq_false h]
theorem v_iff {P Q : Prop} [Decidable P] [Decidable Q] (h : Q ↔ P) : Value.bool (decide Q) = Value.bool (tr (decide P) == 1) := by rw [tr1, decide_eq_decide.2 h]
def HasP (x y z u v w i j k : Int) : Prop := (x ≤ i ∧ i < u) ∧ (y ≤ j ∧ j < v) ∧ (z ≤ k ∧ k < w)
instance (x y z u v w i j k : Int) : Decidable (HasP x y z u v w i j k) := by unfold HasP; infer_instance
theorem bHas_tree : tree Try.prog [] [] 300 20 25 [.agg (iv 0 6), .agg (iv 12 3)] = (.br (.le (.at 0) (.at 12))
 (.br (.lt (.at 12) (.at 3))
 (.br (.le (.at 1) (.at 13))
 (.br (.lt (.at 13) (.at 4))
 (.br (.le (.at 2) (.at 14))
 (.br (.lt (.at 14) (.at 5))
 (.ret (.one (.bool (.lit true))))
 (.ret (.one (.bool (.lit false)))))
 (.ret (.one (.bool (.lit false)))))
 (.ret (.one (.bool (.lit false)))))
 (.ret (.one (.bool (.lit false)))))
 (.ret (.one (.bool (.lit false)))))
 (.ret (.one (.bool (.lit false))))) := by kernel_rfl
theorem bHas_any (x y z u v w p q r s t e i j k : Int) (W : World) : Calls Try.prog 25 #[.agg #[.int .i64 x, .int .i64 y, .int .i64 z, .int .i64 u, .int .i64 v, .int .i64 w], .agg #[.int .i64 i, .int .i64 j, .int .i64 k]] W fun e' w' => e' = .returned (.bool (tr (decide (HasP x y z u v w i j k)) == 1)) ∧ Below W.heap.size W w' := by
  refine tree_fun (ρ := envX [x, y, z, u, v, w, p, q, r, s, t, e, i, j, k] []) .nil .nil wide bHas_tree (by kernel_rfl) rfl (u := .bool (tr (decide (HasP x y z u v w i j k)) == 1)) ?_ W
  refine All.br' (fun (h1 : x ≤ i) => ?_) (fun (h1 : i < x) => ?_)
  · refine All.br' (fun (h2 : i < u) => ?_) (fun (h2 : u ≤ i) => ?_)
    · refine All.br' (fun (h3 : y ≤ j) => ?_) (fun (h3 : j < y) => ?_)
      · refine All.br' (fun (h4 : j < v) => ?_) (fun (h4 : v ≤ j) => ?_)
        · refine All.br' (fun (h5 : z ≤ k) => ?_) (fun (h5 : k < z) => ?_)
          · refine All.br' (fun (h6 : k < w) => ?_) (fun (h6 : w ≤ k) => ?_)
            · exact All.ret (v_yes (by unfold HasP; omega))
            · exact All.ret (v_no (by unfold HasP; omega))
          · exact All.ret (v_no (by unfold HasP; omega))
        · exact All.ret (v_no (by unfold HasP; omega))
      · exact All.ret (v_no (by unfold HasP; omega))
    · exact All.ret (v_no (by unfold HasP; omega))
  · exact All.ret (v_no (by unfold HasP; omega))
theorem rHas06_tree : tree Try.prog [] [] 300 20 26 [.agg (iv 0 6), .agg (iv 12 3)] = (.br (.le (.at 0) (.at 12))
 (.br (.lt (.at 12) (.at 3))
 (.br (.le (.at 1) (.at 13))
 (.br (.lt (.at 13) (.at 4))
 (.br (.le (.at 2) (.at 14))
 (.ret (.one (.bool (.lt (.at 14) (.at 5)))))
 (.ret (.one (.bool (.lit false)))))
 (.ret (.one (.bool (.lit false)))))
 (.ret (.one (.bool (.lit false)))))
 (.ret (.one (.bool (.lit false)))))
 (.ret (.one (.bool (.lit false))))) := by kernel_rfl
theorem rHas06_any (x y z u v w p q r s t e i j k : Int) (W : World) : Calls Try.prog 26 #[.agg #[.int .i64 x, .int .i64 y, .int .i64 z, .int .i64 u, .int .i64 v, .int .i64 w], .agg #[.int .i64 i, .int .i64 j, .int .i64 k]] W fun e' w' => e' = .returned (.bool (tr (decide (HasP x y z u v w i j k)) == 1)) ∧ Below W.heap.size W w' := by
  refine tree_fun (ρ := envX [x, y, z, u, v, w, p, q, r, s, t, e, i, j, k] []) .nil .nil wide rHas06_tree (by kernel_rfl) rfl (u := .bool (tr (decide (HasP x y z u v w i j k)) == 1)) ?_ W
  refine All.br' (fun (h1 : x ≤ i) => ?_) (fun (h1 : i < x) => ?_)
  · refine All.br' (fun (h2 : i < u) => ?_) (fun (h2 : u ≤ i) => ?_)
    · refine All.br' (fun (h3 : y ≤ j) => ?_) (fun (h3 : j < y) => ?_)
      · refine All.br' (fun (h4 : j < v) => ?_) (fun (h4 : v ≤ j) => ?_)
        · refine All.br' (fun (h5 : z ≤ k) => ?_) (fun (h5 : k < z) => ?_)
          · exact All.ret (v_iff (Q := k < w) (by unfold HasP; omega))
          · exact All.ret (v_no (by unfold HasP; omega))
        · exact All.ret (v_no (by unfold HasP; omega))
      · exact All.ret (v_no (by unfold HasP; omega))
    · exact All.ret (v_no (by unfold HasP; omega))
  · exact All.ret (v_no (by unfold HasP; omega))
def InsP (x y z u v w p q r s t e : Int) : Prop := (p ≤ x ∧ u ≤ s) ∧ (q ≤ y ∧ v ≤ t) ∧ (r ≤ z ∧ w ≤ e)
instance (x y z u v w p q r s t e : Int) : Decidable (InsP x y z u v w p q r s t e) := by unfold InsP; infer_instance
theorem bInside_tree : tree Try.prog [] [] 300 20 27 [.agg (iv 0 6), .agg (iv 6 6)] = (.br (.lt (.at 0) (.at 6))
 (.ret (.one (.bool (.lit false))))
 (.br (.lt (.at 9) (.at 3))
 (.ret (.one (.bool (.lit false))))
 (.br (.lt (.at 1) (.at 7))
 (.ret (.one (.bool (.lit false))))
 (.br (.lt (.at 10) (.at 4))
 (.ret (.one (.bool (.lit false))))
 (.br (.lt (.at 2) (.at 8))
 (.ret (.one (.bool (.lit false))))
 (.br (.lt (.at 11) (.at 5))
 (.ret (.one (.bool (.lit false))))
 (.ret (.one (.bool (.lit true)))))))))) := by kernel_rfl
theorem bInside_any (x y z u v w p q r s t e i j k : Int) (W : World) : Calls Try.prog 27 #[.agg #[.int .i64 x, .int .i64 y, .int .i64 z, .int .i64 u, .int .i64 v, .int .i64 w], .agg #[.int .i64 p, .int .i64 q, .int .i64 r, .int .i64 s, .int .i64 t, .int .i64 e]] W fun e' w' => e' = .returned (.bool (tr (decide (InsP x y z u v w p q r s t e)) == 1)) ∧ Below W.heap.size W w' := by
  refine tree_fun (ρ := envX [x, y, z, u, v, w, p, q, r, s, t, e, i, j, k] []) .nil .nil wide bInside_tree (by kernel_rfl) rfl (u := .bool (tr (decide (InsP x y z u v w p q r s t e)) == 1)) ?_ W
  refine All.br' (fun (h1 : x < p) => ?_) (fun (h1 : p ≤ x) => ?_)
  · exact All.ret (v_no (by unfold InsP; omega))
  · refine All.br' (fun (h2 : s < u) => ?_) (fun (h2 : u ≤ s) => ?_)
    · exact All.ret (v_no (by unfold InsP; omega))
    · refine All.br' (fun (h3 : y < q) => ?_) (fun (h3 : q ≤ y) => ?_)
      · exact All.ret (v_no (by unfold InsP; omega))
      · refine All.br' (fun (h4 : t < v) => ?_) (fun (h4 : v ≤ t) => ?_)
        · exact All.ret (v_no (by unfold InsP; omega))
        · refine All.br' (fun (h5 : z < r) => ?_) (fun (h5 : r ≤ z) => ?_)
          · exact All.ret (v_no (by unfold InsP; omega))
          · refine All.br' (fun (h6 : e < w) => ?_) (fun (h6 : w ≤ e) => ?_)
            · exact All.ret (v_no (by unfold InsP; omega))
            · exact All.ret (v_yes (by unfold InsP; omega))
theorem rInside06_tree : tree Try.prog [] [] 300 20 28 [.agg (iv 0 6), .agg (iv 6 6)] = (.br (.lt (.at 0) (.at 6))
 (.ret (.one (.bool (.lit false))))
 (.br (.lt (.at 9) (.at 3))
 (.ret (.one (.bool (.lit false))))
 (.br (.lt (.at 1) (.at 7))
 (.ret (.one (.bool (.lit false))))
 (.br (.lt (.at 10) (.at 4))
 (.ret (.one (.bool (.lit false))))
 (.br (.lt (.at 2) (.at 8))
 (.ret (.one (.bool (.lit false))))
 (.br (.lt (.at 11) (.at 5))
 (.ret (.one (.bool (.lit false))))
 (.ret (.one (.bool (.lit true)))))))))) := by kernel_rfl
theorem rInside06_any (x y z u v w p q r s t e i j k : Int) (W : World) : Calls Try.prog 28 #[.agg #[.int .i64 x, .int .i64 y, .int .i64 z, .int .i64 u, .int .i64 v, .int .i64 w], .agg #[.int .i64 p, .int .i64 q, .int .i64 r, .int .i64 s, .int .i64 t, .int .i64 e]] W fun e' w' => e' = .returned (.bool (tr (decide (InsP x y z u v w p q r s t e)) == 1)) ∧ Below W.heap.size W w' := by
  refine tree_fun (ρ := envX [x, y, z, u, v, w, p, q, r, s, t, e, i, j, k] []) .nil .nil wide rInside06_tree (by kernel_rfl) rfl (u := .bool (tr (decide (InsP x y z u v w p q r s t e)) == 1)) ?_ W
  refine All.br' (fun (h1 : x < p) => ?_) (fun (h1 : p ≤ x) => ?_)
  · exact All.ret (v_no (by unfold InsP; omega))
  · refine All.br' (fun (h2 : s < u) => ?_) (fun (h2 : u ≤ s) => ?_)
    · exact All.ret (v_no (by unfold InsP; omega))
    · refine All.br' (fun (h3 : y < q) => ?_) (fun (h3 : q ≤ y) => ?_)
      · exact All.ret (v_no (by unfold InsP; omega))
      · refine All.br' (fun (h4 : t < v) => ?_) (fun (h4 : v ≤ t) => ?_)
        · exact All.ret (v_no (by unfold InsP; omega))
        · refine All.br' (fun (h5 : z < r) => ?_) (fun (h5 : r ≤ z) => ?_)
          · exact All.ret (v_no (by unfold InsP; omega))
          · refine All.br' (fun (h6 : e < w) => ?_) (fun (h6 : w ≤ e) => ?_)
            · exact All.ret (v_no (by unfold InsP; omega))
            · exact All.ret (v_yes (by unfold InsP; omega))
def OvlP (x y z u v w p q r s t e : Int) : Prop := mxI x p < mnI u s ∧ mxI y q < mnI v t ∧ mxI z r < mnI w e
instance (x y z u v w p q r s t e : Int) : Decidable (OvlP x y z u v w p q r s t e) := by unfold OvlP; infer_instance
theorem bOverlap_tree : tree Try.prog [] [] 300 20 29 [.agg (iv 0 6), .agg (iv 6 6)] = (.br (.le (.mn (.at 3) (.at 9)) (.mx (.at 0) (.at 6)))
 (.ret (.one (.bool (.lit false))))
 (.br (.le (.mn (.at 4) (.at 10)) (.mx (.at 1) (.at 7)))
 (.ret (.one (.bool (.lit false))))
 (.br (.le (.mn (.at 5) (.at 11)) (.mx (.at 2) (.at 8)))
 (.ret (.one (.bool (.lit false))))
 (.ret (.one (.bool (.lit true))))))) := by kernel_rfl
theorem bOverlap_any (x y z u v w p q r s t e i j k : Int) (W : World) : Calls Try.prog 29 #[.agg #[.int .i64 x, .int .i64 y, .int .i64 z, .int .i64 u, .int .i64 v, .int .i64 w], .agg #[.int .i64 p, .int .i64 q, .int .i64 r, .int .i64 s, .int .i64 t, .int .i64 e]] W fun e' w' => e' = .returned (.bool (tr (decide (OvlP x y z u v w p q r s t e)) == 1)) ∧ Below W.heap.size W w' := by
  refine tree_fun (ρ := envX [x, y, z, u, v, w, p, q, r, s, t, e, i, j, k] []) .nil .nil wide bOverlap_tree (by kernel_rfl) rfl (u := .bool (tr (decide (OvlP x y z u v w p q r s t e)) == 1)) ?_ W
  refine All.br' (fun (h1 : (mnI u s) ≤ (mxI x p)) => ?_) (fun (h1 : (mxI x p) < (mnI u s)) => ?_)
  · exact All.ret (v_no (by unfold OvlP; omega))
  · refine All.br' (fun (h2 : (mnI v t) ≤ (mxI y q)) => ?_) (fun (h2 : (mxI y q) < (mnI v t)) => ?_)
    · exact All.ret (v_no (by unfold OvlP; omega))
    · refine All.br' (fun (h3 : (mnI w e) ≤ (mxI z r)) => ?_) (fun (h3 : (mxI z r) < (mnI w e)) => ?_)
      · exact All.ret (v_no (by unfold OvlP; omega))
      · exact All.ret (v_yes (by unfold OvlP; omega))
theorem rOverlap06_tree : tree Try.prog [] [] 300 20 30 [.agg (iv 0 6), .agg (iv 6 6)] = (.br (.lt (.mx (.at 0) (.at 6)) (.mn (.at 3) (.at 9)))
 (.br (.lt (.mx (.at 1) (.at 7)) (.mn (.at 4) (.at 10)))
 (.ret (.one (.bool (.lt (.mx (.at 2) (.at 8)) (.mn (.at 5) (.at 11))))))
 (.ret (.one (.bool (.lit false)))))
 (.ret (.one (.bool (.lit false))))) := by kernel_rfl
theorem rOverlap06_any (x y z u v w p q r s t e i j k : Int) (W : World) : Calls Try.prog 30 #[.agg #[.int .i64 x, .int .i64 y, .int .i64 z, .int .i64 u, .int .i64 v, .int .i64 w], .agg #[.int .i64 p, .int .i64 q, .int .i64 r, .int .i64 s, .int .i64 t, .int .i64 e]] W fun e' w' => e' = .returned (.bool (tr (decide (OvlP x y z u v w p q r s t e)) == 1)) ∧ Below W.heap.size W w' := by
  refine tree_fun (ρ := envX [x, y, z, u, v, w, p, q, r, s, t, e, i, j, k] []) .nil .nil wide rOverlap06_tree (by kernel_rfl) rfl (u := .bool (tr (decide (OvlP x y z u v w p q r s t e)) == 1)) ?_ W
  refine All.br' (fun (h1 : (mxI x p) < (mnI u s)) => ?_) (fun (h1 : (mnI u s) ≤ (mxI x p)) => ?_)
  · refine All.br' (fun (h2 : (mxI y q) < (mnI v t)) => ?_) (fun (h2 : (mnI v t) ≤ (mxI y q)) => ?_)
    · exact All.ret (v_iff (Q := (mxI z r) < (mnI w e)) (by unfold OvlP; omega))
    · exact All.ret (v_no (by unfold OvlP; omega))
  · exact All.ret (v_no (by unfold OvlP; omega))
def reC : Con := [(25, [.agg (iv 0 6), .agg (iv 12 3)], .one (.bool (.eq (.at 20) (.lit 1)))), (26, [.agg (iv 0 6), .agg (iv 12 3)], .one (.bool (.eq (.at 20) (.lit 1)))), (27, [.agg (iv 0 6), .agg (iv 6 6)], .one (.bool (.eq (.at 21) (.lit 1)))), (28, [.agg (iv 0 6), .agg (iv 6 6)], .one (.bool (.eq (.at 21) (.lit 1)))), (29, [.agg (iv 0 6), .agg (iv 6 6)], .one (.bool (.eq (.at 22) (.lit 1)))), (30, [.agg (iv 0 6), .agg (iv 6 6)], .one (.bool (.eq (.at 22) (.lit 1))))]
abbrev reY (x y z u v w p q r s t e i j k : Int) : List Int := [tr (decide (HasP x y z u v w i j k)), tr (decide (InsP x y z u v w p q r s t e)), tr (decide (OvlP x y z u v w p q r s t e))]
theorem reC_ok (x y z u v w p q r s t e i j k : Int) : ConOk Try.prog (envX [x, y, z, u, v, w, p, q, r, s, t, e, i, j, k] (reY x y z u v w p q r s t e i j k)) reC :=
  .cons (fun _ W => bHas_any x y z u v w p q r s t e i j k W) (.cons (fun _ W => rHas06_any x y z u v w p q r s t e i j k W) (.cons (fun _ W => bInside_any x y z u v w p q r s t e i j k W) (.cons (fun _ W => rInside06_any x y z u v w p q r s t e i j k W) (.cons (fun _ W => bOverlap_any x y z u v w p q r s t e i j k W) (.cons (fun _ W => rOverlap06_any x y z u v w p q r s t e i j k W) (.nil))))))
def reK : Con := reC ++ con1
theorem reA_r00 : treeB Try.prog reK [(.lt (.at 0) (.lit (-1000000)), true), (.lt (.mn (.at 0) (.at 3)) (.lit (-1000000)), true)] 300 25 4 [.agg (iv 0 6), .agg (iv 6 6), .agg (iv 12 3)] = .ret (.one (.bool (.lit true))) := by kernel_rfl
theorem reA_r01 : treeB Try.prog reK [(.lt (.lit (1000000)) (.at 0), true), (.lt (.lit (1000000)) (.mx (.at 0) (.at 3)), true)] 300 25 4 [.agg (iv 0 6), .agg (iv 6 6), .agg (iv 12 3)] = .ret (.one (.bool (.lit true))) := by kernel_rfl
theorem reA_r02 : treeB Try.prog reK [(.lt (.at 0) (.lit (-1000000)), false), (.lt (.lit (1000000)) (.at 0), false), (.lt (.at 3) (.lit (-1000000)), true), (.lt (.mn (.at 0) (.at 3)) (.lit (-1000000)), true)] 300 25 4 [.agg (iv 0 6), .agg (iv 6 6), .agg (iv 12 3)] = .ret (.one (.bool (.lit true))) := by kernel_rfl
theorem reA_r03 : treeB Try.prog reK [(.lt (.at 0) (.lit (-1000000)), false), (.lt (.lit (1000000)) (.at 0), false), (.lt (.lit (1000000)) (.at 3), true), (.lt (.lit (1000000)) (.mx (.at 0) (.at 3)), true)] 300 25 4 [.agg (iv 0 6), .agg (iv 6 6), .agg (iv 12 3)] = .ret (.one (.bool (.lit true))) := by kernel_rfl
theorem reA_r10 : treeB Try.prog reK [(.lt (.at 0) (.lit (-1000000)), false), (.lt (.lit (1000000)) (.at 0), false), (.lt (.at 3) (.lit (-1000000)), false), (.lt (.lit (1000000)) (.at 3), false), (.lt (.at 1) (.lit (-1000000)), true), (.lt (.mn (.at 1) (.at 4)) (.lit (-1000000)), true)] 300 25 4 [.agg (iv 0 6), .agg (iv 6 6), .agg (iv 12 3)] = .ret (.one (.bool (.lit true))) := by kernel_rfl
theorem reA_r11 : treeB Try.prog reK [(.lt (.at 0) (.lit (-1000000)), false), (.lt (.lit (1000000)) (.at 0), false), (.lt (.at 3) (.lit (-1000000)), false), (.lt (.lit (1000000)) (.at 3), false), (.lt (.lit (1000000)) (.at 1), true), (.lt (.lit (1000000)) (.mx (.at 1) (.at 4)), true)] 300 25 4 [.agg (iv 0 6), .agg (iv 6 6), .agg (iv 12 3)] = .ret (.one (.bool (.lit true))) := by kernel_rfl
theorem reA_r12 : treeB Try.prog reK [(.lt (.at 0) (.lit (-1000000)), false), (.lt (.lit (1000000)) (.at 0), false), (.lt (.at 3) (.lit (-1000000)), false), (.lt (.lit (1000000)) (.at 3), false), (.lt (.at 1) (.lit (-1000000)), false), (.lt (.lit (1000000)) (.at 1), false), (.lt (.at 4) (.lit (-1000000)), true), (.lt (.mn (.at 1) (.at 4)) (.lit (-1000000)), true)] 300 25 4 [.agg (iv 0 6), .agg (iv 6 6), .agg (iv 12 3)] = .ret (.one (.bool (.lit true))) := by kernel_rfl
theorem reA_r13 : treeB Try.prog reK [(.lt (.at 0) (.lit (-1000000)), false), (.lt (.lit (1000000)) (.at 0), false), (.lt (.at 3) (.lit (-1000000)), false), (.lt (.lit (1000000)) (.at 3), false), (.lt (.at 1) (.lit (-1000000)), false), (.lt (.lit (1000000)) (.at 1), false), (.lt (.lit (1000000)) (.at 4), true), (.lt (.lit (1000000)) (.mx (.at 1) (.at 4)), true)] 300 25 4 [.agg (iv 0 6), .agg (iv 6 6), .agg (iv 12 3)] = .ret (.one (.bool (.lit true))) := by kernel_rfl
theorem reA_r20 : treeB Try.prog reK [(.lt (.at 0) (.lit (-1000000)), false), (.lt (.lit (1000000)) (.at 0), false), (.lt (.at 3) (.lit (-1000000)), false), (.lt (.lit (1000000)) (.at 3), false), (.lt (.at 1) (.lit (-1000000)), false), (.lt (.lit (1000000)) (.at 1), false), (.lt (.at 4) (.lit (-1000000)), false), (.lt (.lit (1000000)) (.at 4), false), (.lt (.at 2) (.lit (-1000000)), true), (.lt (.mn (.at 2) (.at 5)) (.lit (-1000000)), true)] 300 25 4 [.agg (iv 0 6), .agg (iv 6 6), .agg (iv 12 3)] = .ret (.one (.bool (.lit true))) := by kernel_rfl
theorem reA_r21 : treeB Try.prog reK [(.lt (.at 0) (.lit (-1000000)), false), (.lt (.lit (1000000)) (.at 0), false), (.lt (.at 3) (.lit (-1000000)), false), (.lt (.lit (1000000)) (.at 3), false), (.lt (.at 1) (.lit (-1000000)), false), (.lt (.lit (1000000)) (.at 1), false), (.lt (.at 4) (.lit (-1000000)), false), (.lt (.lit (1000000)) (.at 4), false), (.lt (.lit (1000000)) (.at 2), true), (.lt (.lit (1000000)) (.mx (.at 2) (.at 5)), true)] 300 25 4 [.agg (iv 0 6), .agg (iv 6 6), .agg (iv 12 3)] = .ret (.one (.bool (.lit true))) := by kernel_rfl
theorem reA_r22 : treeB Try.prog reK [(.lt (.at 0) (.lit (-1000000)), false), (.lt (.lit (1000000)) (.at 0), false), (.lt (.at 3) (.lit (-1000000)), false), (.lt (.lit (1000000)) (.at 3), false), (.lt (.at 1) (.lit (-1000000)), false), (.lt (.lit (1000000)) (.at 1), false), (.lt (.at 4) (.lit (-1000000)), false), (.lt (.lit (1000000)) (.at 4), false), (.lt (.at 2) (.lit (-1000000)), false), (.lt (.lit (1000000)) (.at 2), false), (.lt (.at 5) (.lit (-1000000)), true), (.lt (.mn (.at 2) (.at 5)) (.lit (-1000000)), true)] 300 25 4 [.agg (iv 0 6), .agg (iv 6 6), .agg (iv 12 3)] = .ret (.one (.bool (.lit true))) := by kernel_rfl
theorem reA_r23 : treeB Try.prog reK [(.lt (.at 0) (.lit (-1000000)), false), (.lt (.lit (1000000)) (.at 0), false), (.lt (.at 3) (.lit (-1000000)), false), (.lt (.lit (1000000)) (.at 3), false), (.lt (.at 1) (.lit (-1000000)), false), (.lt (.lit (1000000)) (.at 1), false), (.lt (.at 4) (.lit (-1000000)), false), (.lt (.lit (1000000)) (.at 4), false), (.lt (.at 2) (.lit (-1000000)), false), (.lt (.lit (1000000)) (.at 2), false), (.lt (.lit (1000000)) (.at 5), true), (.lt (.lit (1000000)) (.mx (.at 2) (.at 5)), true)] 300 25 4 [.agg (iv 0 6), .agg (iv 6 6), .agg (iv 12 3)] = .ret (.one (.bool (.lit true))) := by kernel_rfl
theorem reA_i0 : treeB Try.prog reK [(.lt (.at 0) (.lit (-1000000)), false), (.lt (.lit (1000000)) (.at 0), false), (.lt (.at 3) (.lit (-1000000)), false), (.lt (.lit (1000000)) (.at 3), false), (.lt (.at 1) (.lit (-1000000)), false), (.lt (.lit (1000000)) (.at 1), false), (.lt (.at 4) (.lit (-1000000)), false), (.lt (.lit (1000000)) (.at 4), false), (.lt (.at 2) (.lit (-1000000)), false), (.lt (.lit (1000000)) (.at 2), false), (.lt (.at 5) (.lit (-1000000)), false), (.lt (.lit (1000000)) (.at 5), false), (.lt (.at 0) (.at 3), false)] 300 25 4 [.agg (iv 0 6), .agg (iv 6 6), .agg (iv 12 3)] = .ret (.one (.bool (.lit true))) := by kernel_rfl
theorem reA_i1 : treeB Try.prog reK [(.lt (.at 0) (.lit (-1000000)), false), (.lt (.lit (1000000)) (.at 0), false), (.lt (.at 3) (.lit (-1000000)), false), (.lt (.lit (1000000)) (.at 3), false), (.lt (.at 1) (.lit (-1000000)), false), (.lt (.lit (1000000)) (.at 1), false), (.lt (.at 4) (.lit (-1000000)), false), (.lt (.lit (1000000)) (.at 4), false), (.lt (.at 2) (.lit (-1000000)), false), (.lt (.lit (1000000)) (.at 2), false), (.lt (.at 5) (.lit (-1000000)), false), (.lt (.lit (1000000)) (.at 5), false), (.lt (.at 0) (.at 3), true), (.lt (.at 1) (.at 4), false)] 300 25 4 [.agg (iv 0 6), .agg (iv 6 6), .agg (iv 12 3)] = .ret (.one (.bool (.lit true))) := by kernel_rfl
theorem reA_i2 : treeB Try.prog reK [(.lt (.at 0) (.lit (-1000000)), false), (.lt (.lit (1000000)) (.at 0), false), (.lt (.at 3) (.lit (-1000000)), false), (.lt (.lit (1000000)) (.at 3), false), (.lt (.at 1) (.lit (-1000000)), false), (.lt (.lit (1000000)) (.at 1), false), (.lt (.at 4) (.lit (-1000000)), false), (.lt (.lit (1000000)) (.at 4), false), (.lt (.at 2) (.lit (-1000000)), false), (.lt (.lit (1000000)) (.at 2), false), (.lt (.at 5) (.lit (-1000000)), false), (.lt (.lit (1000000)) (.at 5), false), (.lt (.at 0) (.at 3), true), (.lt (.at 1) (.at 4), true), (.lt (.at 2) (.at 5), false)] 300 25 4 [.agg (iv 0 6), .agg (iv 6 6), .agg (iv 12 3)] = .ret (.one (.bool (.lit true))) := by kernel_rfl
def reP_r00 : PC := okA ++ [(.lt (.at 6) (.lit (-1000000)), true), (.lt (.mn (.at 6) (.at 9)) (.lit (-1000000)), true)]
theorem reB_r00 : treeB Try.prog reK reP_r00 300 25 4 [.agg (iv 0 6), .agg (iv 6 6), .agg (iv 12 3)] = .ret (.one (.bool (.lit true))) := by kernel_rfl
def reP_r01 : PC := okA ++ [(.lt (.lit (1000000)) (.at 6), true), (.lt (.lit (1000000)) (.mx (.at 6) (.at 9)), true)]
theorem reB_r01 : treeB Try.prog reK reP_r01 300 25 4 [.agg (iv 0 6), .agg (iv 6 6), .agg (iv 12 3)] = .ret (.one (.bool (.lit true))) := by kernel_rfl
def reP_r02 : PC := okA ++ [(.lt (.at 6) (.lit (-1000000)), false), (.lt (.lit (1000000)) (.at 6), false), (.lt (.at 9) (.lit (-1000000)), true), (.lt (.mn (.at 6) (.at 9)) (.lit (-1000000)), true)]
theorem reB_r02 : treeB Try.prog reK reP_r02 300 25 4 [.agg (iv 0 6), .agg (iv 6 6), .agg (iv 12 3)] = .ret (.one (.bool (.lit true))) := by kernel_rfl
def reP_r03 : PC := okA ++ [(.lt (.at 6) (.lit (-1000000)), false), (.lt (.lit (1000000)) (.at 6), false), (.lt (.lit (1000000)) (.at 9), true), (.lt (.lit (1000000)) (.mx (.at 6) (.at 9)), true)]
theorem reB_r03 : treeB Try.prog reK reP_r03 300 25 4 [.agg (iv 0 6), .agg (iv 6 6), .agg (iv 12 3)] = .ret (.one (.bool (.lit true))) := by kernel_rfl
def reP_r10 : PC := okA ++ [(.lt (.at 6) (.lit (-1000000)), false), (.lt (.lit (1000000)) (.at 6), false), (.lt (.at 9) (.lit (-1000000)), false), (.lt (.lit (1000000)) (.at 9), false), (.lt (.at 7) (.lit (-1000000)), true), (.lt (.mn (.at 7) (.at 10)) (.lit (-1000000)), true)]
theorem reB_r10 : treeB Try.prog reK reP_r10 300 25 4 [.agg (iv 0 6), .agg (iv 6 6), .agg (iv 12 3)] = .ret (.one (.bool (.lit true))) := by kernel_rfl
def reP_r11 : PC := okA ++ [(.lt (.at 6) (.lit (-1000000)), false), (.lt (.lit (1000000)) (.at 6), false), (.lt (.at 9) (.lit (-1000000)), false), (.lt (.lit (1000000)) (.at 9), false), (.lt (.lit (1000000)) (.at 7), true), (.lt (.lit (1000000)) (.mx (.at 7) (.at 10)), true)]
theorem reB_r11 : treeB Try.prog reK reP_r11 300 25 4 [.agg (iv 0 6), .agg (iv 6 6), .agg (iv 12 3)] = .ret (.one (.bool (.lit true))) := by kernel_rfl
def reP_r12 : PC := okA ++ [(.lt (.at 6) (.lit (-1000000)), false), (.lt (.lit (1000000)) (.at 6), false), (.lt (.at 9) (.lit (-1000000)), false), (.lt (.lit (1000000)) (.at 9), false), (.lt (.at 7) (.lit (-1000000)), false), (.lt (.lit (1000000)) (.at 7), false), (.lt (.at 10) (.lit (-1000000)), true), (.lt (.mn (.at 7) (.at 10)) (.lit (-1000000)), true)]
theorem reB_r12 : treeB Try.prog reK reP_r12 300 25 4 [.agg (iv 0 6), .agg (iv 6 6), .agg (iv 12 3)] = .ret (.one (.bool (.lit true))) := by kernel_rfl
def reP_r13 : PC := okA ++ [(.lt (.at 6) (.lit (-1000000)), false), (.lt (.lit (1000000)) (.at 6), false), (.lt (.at 9) (.lit (-1000000)), false), (.lt (.lit (1000000)) (.at 9), false), (.lt (.at 7) (.lit (-1000000)), false), (.lt (.lit (1000000)) (.at 7), false), (.lt (.lit (1000000)) (.at 10), true), (.lt (.lit (1000000)) (.mx (.at 7) (.at 10)), true)]
theorem reB_r13 : treeB Try.prog reK reP_r13 300 25 4 [.agg (iv 0 6), .agg (iv 6 6), .agg (iv 12 3)] = .ret (.one (.bool (.lit true))) := by kernel_rfl
def reP_r20 : PC := okA ++ [(.lt (.at 6) (.lit (-1000000)), false), (.lt (.lit (1000000)) (.at 6), false), (.lt (.at 9) (.lit (-1000000)), false), (.lt (.lit (1000000)) (.at 9), false), (.lt (.at 7) (.lit (-1000000)), false), (.lt (.lit (1000000)) (.at 7), false), (.lt (.at 10) (.lit (-1000000)), false), (.lt (.lit (1000000)) (.at 10), false), (.lt (.at 8) (.lit (-1000000)), true), (.lt (.mn (.at 8) (.at 11)) (.lit (-1000000)), true)]
theorem reB_r20 : treeB Try.prog reK reP_r20 300 25 4 [.agg (iv 0 6), .agg (iv 6 6), .agg (iv 12 3)] = .ret (.one (.bool (.lit true))) := by kernel_rfl
def reP_r21 : PC := okA ++ [(.lt (.at 6) (.lit (-1000000)), false), (.lt (.lit (1000000)) (.at 6), false), (.lt (.at 9) (.lit (-1000000)), false), (.lt (.lit (1000000)) (.at 9), false), (.lt (.at 7) (.lit (-1000000)), false), (.lt (.lit (1000000)) (.at 7), false), (.lt (.at 10) (.lit (-1000000)), false), (.lt (.lit (1000000)) (.at 10), false), (.lt (.lit (1000000)) (.at 8), true), (.lt (.lit (1000000)) (.mx (.at 8) (.at 11)), true)]
theorem reB_r21 : treeB Try.prog reK reP_r21 300 25 4 [.agg (iv 0 6), .agg (iv 6 6), .agg (iv 12 3)] = .ret (.one (.bool (.lit true))) := by kernel_rfl
def reP_r22 : PC := okA ++ [(.lt (.at 6) (.lit (-1000000)), false), (.lt (.lit (1000000)) (.at 6), false), (.lt (.at 9) (.lit (-1000000)), false), (.lt (.lit (1000000)) (.at 9), false), (.lt (.at 7) (.lit (-1000000)), false), (.lt (.lit (1000000)) (.at 7), false), (.lt (.at 10) (.lit (-1000000)), false), (.lt (.lit (1000000)) (.at 10), false), (.lt (.at 8) (.lit (-1000000)), false), (.lt (.lit (1000000)) (.at 8), false), (.lt (.at 11) (.lit (-1000000)), true), (.lt (.mn (.at 8) (.at 11)) (.lit (-1000000)), true)]
theorem reB_r22 : treeB Try.prog reK reP_r22 300 25 4 [.agg (iv 0 6), .agg (iv 6 6), .agg (iv 12 3)] = .ret (.one (.bool (.lit true))) := by kernel_rfl
def reP_r23 : PC := okA ++ [(.lt (.at 6) (.lit (-1000000)), false), (.lt (.lit (1000000)) (.at 6), false), (.lt (.at 9) (.lit (-1000000)), false), (.lt (.lit (1000000)) (.at 9), false), (.lt (.at 7) (.lit (-1000000)), false), (.lt (.lit (1000000)) (.at 7), false), (.lt (.at 10) (.lit (-1000000)), false), (.lt (.lit (1000000)) (.at 10), false), (.lt (.at 8) (.lit (-1000000)), false), (.lt (.lit (1000000)) (.at 8), false), (.lt (.lit (1000000)) (.at 11), true), (.lt (.lit (1000000)) (.mx (.at 8) (.at 11)), true)]
theorem reB_r23 : treeB Try.prog reK reP_r23 300 25 4 [.agg (iv 0 6), .agg (iv 6 6), .agg (iv 12 3)] = .ret (.one (.bool (.lit true))) := by kernel_rfl
def reP_i0 : PC := okA ++ [(.lt (.at 6) (.lit (-1000000)), false), (.lt (.lit (1000000)) (.at 6), false), (.lt (.at 9) (.lit (-1000000)), false), (.lt (.lit (1000000)) (.at 9), false), (.lt (.at 7) (.lit (-1000000)), false), (.lt (.lit (1000000)) (.at 7), false), (.lt (.at 10) (.lit (-1000000)), false), (.lt (.lit (1000000)) (.at 10), false), (.lt (.at 8) (.lit (-1000000)), false), (.lt (.lit (1000000)) (.at 8), false), (.lt (.at 11) (.lit (-1000000)), false), (.lt (.lit (1000000)) (.at 11), false), (.lt (.at 6) (.at 9), false)]
theorem reB_i0 : treeB Try.prog reK reP_i0 300 25 4 [.agg (iv 0 6), .agg (iv 6 6), .agg (iv 12 3)] = .ret (.one (.bool (.lit true))) := by kernel_rfl
def reP_i1 : PC := okA ++ [(.lt (.at 6) (.lit (-1000000)), false), (.lt (.lit (1000000)) (.at 6), false), (.lt (.at 9) (.lit (-1000000)), false), (.lt (.lit (1000000)) (.at 9), false), (.lt (.at 7) (.lit (-1000000)), false), (.lt (.lit (1000000)) (.at 7), false), (.lt (.at 10) (.lit (-1000000)), false), (.lt (.lit (1000000)) (.at 10), false), (.lt (.at 8) (.lit (-1000000)), false), (.lt (.lit (1000000)) (.at 8), false), (.lt (.at 11) (.lit (-1000000)), false), (.lt (.lit (1000000)) (.at 11), false), (.lt (.at 6) (.at 9), true), (.lt (.at 7) (.at 10), false)]
theorem reB_i1 : treeB Try.prog reK reP_i1 300 25 4 [.agg (iv 0 6), .agg (iv 6 6), .agg (iv 12 3)] = .ret (.one (.bool (.lit true))) := by kernel_rfl
def reP_i2 : PC := okA ++ [(.lt (.at 6) (.lit (-1000000)), false), (.lt (.lit (1000000)) (.at 6), false), (.lt (.at 9) (.lit (-1000000)), false), (.lt (.lit (1000000)) (.at 9), false), (.lt (.at 7) (.lit (-1000000)), false), (.lt (.lit (1000000)) (.at 7), false), (.lt (.at 10) (.lit (-1000000)), false), (.lt (.lit (1000000)) (.at 10), false), (.lt (.at 8) (.lit (-1000000)), false), (.lt (.lit (1000000)) (.at 8), false), (.lt (.at 11) (.lit (-1000000)), false), (.lt (.lit (1000000)) (.at 11), false), (.lt (.at 6) (.at 9), true), (.lt (.at 7) (.at 10), true), (.lt (.at 8) (.at 11), false)]
theorem reB_i2 : treeB Try.prog reK reP_i2 300 25 4 [.agg (iv 0 6), .agg (iv 6 6), .agg (iv 12 3)] = .ret (.one (.bool (.lit true))) := by kernel_rfl
def reP_ok : PC := okA ++ [(.lt (.at 6) (.lit (-1000000)), false), (.lt (.lit (1000000)) (.at 6), false), (.lt (.at 9) (.lit (-1000000)), false), (.lt (.lit (1000000)) (.at 9), false), (.lt (.at 7) (.lit (-1000000)), false), (.lt (.lit (1000000)) (.at 7), false), (.lt (.at 10) (.lit (-1000000)), false), (.lt (.lit (1000000)) (.at 10), false), (.lt (.at 8) (.lit (-1000000)), false), (.lt (.lit (1000000)) (.at 8), false), (.lt (.at 11) (.lit (-1000000)), false), (.lt (.lit (1000000)) (.at 11), false), (.lt (.at 6) (.at 9), true), (.lt (.at 7) (.at 10), true), (.lt (.at 8) (.at 11), true)]
theorem reB_ok : treeB Try.prog reK reP_ok 300 25 4 [.agg (iv 0 6), .agg (iv 6 6), .agg (iv 12 3)] = .ret (.one (.bool (.lit true))) := by kernel_rfl
end Go.Proofs.Ytnciilkcdemnjaa
