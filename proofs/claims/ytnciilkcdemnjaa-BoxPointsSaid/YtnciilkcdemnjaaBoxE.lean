/- Where boxes touch; volumes; boxes that are moved there and back. -/
import Derived.Test.YtnciilkcdemnjaaBoxD
namespace Go.Proofs.Ytnciilkcdemnjaa
open Go.RowKit
def okB : PC := [(.lt (.at 6) (.lit (-1000000)), false), (.lt (.lit (1000000)) (.at 6), false), (.lt (.at 9) (.lit (-1000000)), false), (.lt (.lit (1000000)) (.at 9), false), (.lt (.at 7) (.lit (-1000000)), false), (.lt (.lit (1000000)) (.at 7), false), (.lt (.at 10) (.lit (-1000000)), false), (.lt (.lit (1000000)) (.at 10), false), (.lt (.at 8) (.lit (-1000000)), false), (.lt (.lit (1000000)) (.at 8), false), (.lt (.at 11) (.lit (-1000000)), false), (.lt (.lit (1000000)) (.at 11), false), (.lt (.at 6) (.at 9), true), (.lt (.at 7) (.at 10), true), (.lt (.at 8) (.at 11), true)]
theorem okB_ok {x y z u v w p q r s t e : Int} {xs ys : List Int} (h : VB p q r s t e) : PC.Ok (envX (x :: y :: z :: u :: v :: w :: p :: q :: r :: s :: t :: e :: xs) ys) okB := by
  obtain ⟨⟨h1, h2, h3⟩, ⟨h4, h5, h6⟩, h7, h8, h9⟩ := h
  exact (.cons' (show (-1000000) ≤ p by omega) (.cons' (show p ≤ (1000000 : Int) by omega) (.cons' (show (-1000000) ≤ s by omega) (.cons' (show s ≤ (1000000 : Int) by omega) (.cons' (show (-1000000) ≤ q by omega) (.cons' (show q ≤ (1000000 : Int) by omega) (.cons' (show (-1000000) ≤ t by omega) (.cons' (show t ≤ (1000000 : Int) by omega) (.cons' (show (-1000000) ≤ r by omega) (.cons' (show r ≤ (1000000 : Int) by omega) (.cons' (show (-1000000) ≤ e by omega) (.cons' (show e ≤ (1000000 : Int) by omega) (.cons' (show p < s by omega) (.cons' (show q < t by omega) (.cons' (show r < e by omega) .nil)))))))))))))))
/-- The direction of contact, 6 for none. -/
def TD (x y z u v w p q r s t e : Int) : Int :=
  if (y < t ∧ q < v) ∧ (z < e ∧ r < w) ∧ p = u then 0
  else if (y < t ∧ q < v) ∧ (z < e ∧ r < w) ∧ s = x then 1
  else if (x < s ∧ p < u) ∧ (z < e ∧ r < w) ∧ q = v then 2
  else if (x < s ∧ p < u) ∧ (z < e ∧ r < w) ∧ t = y then 3
  else if (x < s ∧ p < u) ∧ (y < t ∧ q < v) ∧ r = w then 4
  else if (x < s ∧ p < u) ∧ (y < t ∧ q < v) ∧ e = z then 5
  else 6
def tdN (n : Int) : Int := if n = 6 then 0 else n
def teN (n : Int) : Int := if n = 6 then 9 else 0
abbrev tV (n : Int) : Value := .tuple #[.int .i64 (tdN n), .int .i64 (teN n)]
theorem tv_is {n m c : Int} {g : Int} (h : g = n) (h1 : tdN n = m) (h2 : teN n = c) : Value.tuple #[.int .i64 m, .int .i64 c] = tV g := by subst h; subst h1; subst h2; rfl
theorem bTouch_tree : tree Try.prog [] (okA ++ okB) 300 20 31 [.agg (iv 0 6), .agg (iv 6 6)] = (.br (.le (.mn (.at 4) (.at 10)) (.mx (.at 1) (.at 7)))
 (.br (.le (.mn (.at 3) (.at 9)) (.mx (.at 0) (.at 6)))
 (.ret (.tup [⟨false, [(.int .i64 (.lit (0)))]⟩, ⟨false, [(.int .i64 (.lit (9)))]⟩]))
 (.br (.le (.mn (.at 5) (.at 11)) (.mx (.at 2) (.at 8)))
 (.ret (.tup [⟨false, [(.int .i64 (.lit (0)))]⟩, ⟨false, [(.int .i64 (.lit (9)))]⟩]))
 (.br (.eq (.at 7) (.at 4))
 (.ret (.tup [⟨false, [(.int .i64 (.lit (2)))]⟩, ⟨false, [(.int .i64 (.lit (0)))]⟩]))
 (.br (.eq (.at 10) (.at 1))
 (.ret (.tup [⟨false, [(.int .i64 (.lit (3)))]⟩, ⟨false, [(.int .i64 (.lit (0)))]⟩]))
 (.ret (.tup [⟨false, [(.int .i64 (.lit (0)))]⟩, ⟨false, [(.int .i64 (.lit (9)))]⟩]))))))
 (.br (.le (.mn (.at 5) (.at 11)) (.mx (.at 2) (.at 8)))
 (.br (.le (.mn (.at 3) (.at 9)) (.mx (.at 0) (.at 6)))
 (.ret (.tup [⟨false, [(.int .i64 (.lit (0)))]⟩, ⟨false, [(.int .i64 (.lit (9)))]⟩]))
 (.br (.eq (.at 8) (.at 5))
 (.ret (.tup [⟨false, [(.int .i64 (.lit (4)))]⟩, ⟨false, [(.int .i64 (.lit (0)))]⟩]))
 (.br (.eq (.at 11) (.at 2))
 (.ret (.tup [⟨false, [(.int .i64 (.lit (5)))]⟩, ⟨false, [(.int .i64 (.lit (0)))]⟩]))
 (.ret (.tup [⟨false, [(.int .i64 (.lit (0)))]⟩, ⟨false, [(.int .i64 (.lit (9)))]⟩])))))
 (.br (.eq (.at 6) (.at 3))
 (.ret (.tup [⟨false, [(.int .i64 (.lit (0)))]⟩, ⟨false, [(.int .i64 (.lit (0)))]⟩]))
 (.br (.eq (.at 9) (.at 0))
 (.ret (.tup [⟨false, [(.int .i64 (.lit (1)))]⟩, ⟨false, [(.int .i64 (.lit (0)))]⟩]))
 (.br (.le (.mn (.at 3) (.at 9)) (.mx (.at 0) (.at 6)))
 (.ret (.tup [⟨false, [(.int .i64 (.lit (0)))]⟩, ⟨false, [(.int .i64 (.lit (9)))]⟩]))
 (.br (.eq (.at 7) (.at 4))
 (.ret (.tup [⟨false, [(.int .i64 (.lit (2)))]⟩, ⟨false, [(.int .i64 (.lit (0)))]⟩]))
 (.br (.eq (.at 10) (.at 1))
 (.ret (.tup [⟨false, [(.int .i64 (.lit (3)))]⟩, ⟨false, [(.int .i64 (.lit (0)))]⟩]))
 (.br (.eq (.at 8) (.at 5))
 (.ret (.tup [⟨false, [(.int .i64 (.lit (4)))]⟩, ⟨false, [(.int .i64 (.lit (0)))]⟩]))
 (.br (.eq (.at 11) (.at 2))
 (.ret (.tup [⟨false, [(.int .i64 (.lit (5)))]⟩, ⟨false, [(.int .i64 (.lit (0)))]⟩]))
 (.ret (.tup [⟨false, [(.int .i64 (.lit (0)))]⟩, ⟨false, [(.int .i64 (.lit (9)))]⟩]))))))))))) := by kernel_rfl
theorem bTouch_any {x y z u v w p q r s t e : Int} (ha : VB x y z u v w) (hb : VB p q r s t e) (W : World) : Calls Try.prog 31 #[.agg #[.int .i64 x, .int .i64 y, .int .i64 z, .int .i64 u, .int .i64 v, .int .i64 w], .agg #[.int .i64 p, .int .i64 q, .int .i64 r, .int .i64 s, .int .i64 t, .int .i64 e]] W fun e' w' => e' = .returned (tV (TD x y z u v w p q r s t e)) ∧ Below W.heap.size W w' := by
  have e0 : PC.Ok (envX [x, y, z, u, v, w, p, q, r, s, t, e] []) okB := okB_ok hb
  have e1 : PC.Ok (envX [x, y, z, u, v, w, p, q, r, s, t, e] []) (okA ++ okB) := (okA_ok ha).app e0
  refine tree_fun (ρ := envX [x, y, z, u, v, w, p, q, r, s, t, e] []) .nil e1 wide bTouch_tree (by kernel_rfl) rfl (u := tV (TD x y z u v w p q r s t e)) ?_ W
  obtain ⟨⟨a1, a2, a3⟩, ⟨a4, a5, a6⟩, a7, a8, a9⟩ := ha
  obtain ⟨⟨b1, b2, b3⟩, ⟨b4, b5, b6⟩, b7, b8, b9⟩ := hb
  refine All.br' (fun (h1 : (mnI v t) ≤ (mxI y q)) => ?_) (fun (h1 : (mxI y q) < (mnI v t)) => ?_)
  · refine All.br' (fun (h2 : (mnI u s) ≤ (mxI x p)) => ?_) (fun (h2 : (mxI x p) < (mnI u s)) => ?_)
    · exact All.ret (tv_is (n := 6) (m := 0) (c := 9) (by have m1 := mnI_spec u s; have m2 := mnI_spec v t; have m3 := mnI_spec w e; have m4 := mxI_spec x p; have m5 := mxI_spec y q; have m6 := mxI_spec z r; unfold TD; exact ((if_neg (by omega)).trans ((if_neg (by omega)).trans ((if_neg (by omega)).trans ((if_neg (by omega)).trans ((if_neg (by omega)).trans (if_neg (by omega)))))))) (by decide) (by decide))
    · refine All.br' (fun (h3 : (mnI w e) ≤ (mxI z r)) => ?_) (fun (h3 : (mxI z r) < (mnI w e)) => ?_)
      · exact All.ret (tv_is (n := 6) (m := 0) (c := 9) (by have m1 := mnI_spec u s; have m2 := mnI_spec v t; have m3 := mnI_spec w e; have m4 := mxI_spec x p; have m5 := mxI_spec y q; have m6 := mxI_spec z r; unfold TD; exact ((if_neg (by omega)).trans ((if_neg (by omega)).trans ((if_neg (by omega)).trans ((if_neg (by omega)).trans ((if_neg (by omega)).trans (if_neg (by omega)))))))) (by decide) (by decide))
      · refine All.br' (fun (h4 : q = v) => ?_) (fun (h4 : q ≠ v) => ?_)
        · exact All.ret (tv_is (n := 2) (m := 2) (c := 0) (by have m1 := mnI_spec u s; have m2 := mnI_spec v t; have m3 := mnI_spec w e; have m4 := mxI_spec x p; have m5 := mxI_spec y q; have m6 := mxI_spec z r; unfold TD; exact ((if_neg (by omega)).trans ((if_neg (by omega)).trans (if_pos (by omega))))) (by decide) (by decide))
        · refine All.br' (fun (h5 : t = y) => ?_) (fun (h5 : t ≠ y) => ?_)
          · exact All.ret (tv_is (n := 3) (m := 3) (c := 0) (by have m1 := mnI_spec u s; have m2 := mnI_spec v t; have m3 := mnI_spec w e; have m4 := mxI_spec x p; have m5 := mxI_spec y q; have m6 := mxI_spec z r; unfold TD; exact ((if_neg (by omega)).trans ((if_neg (by omega)).trans ((if_neg (by omega)).trans (if_pos (by omega)))))) (by decide) (by decide))
          · exact All.ret (tv_is (n := 6) (m := 0) (c := 9) (by have m1 := mnI_spec u s; have m2 := mnI_spec v t; have m3 := mnI_spec w e; have m4 := mxI_spec x p; have m5 := mxI_spec y q; have m6 := mxI_spec z r; unfold TD; exact ((if_neg (by omega)).trans ((if_neg (by omega)).trans ((if_neg (by omega)).trans ((if_neg (by omega)).trans ((if_neg (by omega)).trans (if_neg (by omega)))))))) (by decide) (by decide))
  · refine All.br' (fun (h6 : (mnI w e) ≤ (mxI z r)) => ?_) (fun (h6 : (mxI z r) < (mnI w e)) => ?_)
    · refine All.br' (fun (h7 : (mnI u s) ≤ (mxI x p)) => ?_) (fun (h7 : (mxI x p) < (mnI u s)) => ?_)
      · exact All.ret (tv_is (n := 6) (m := 0) (c := 9) (by have m1 := mnI_spec u s; have m2 := mnI_spec v t; have m3 := mnI_spec w e; have m4 := mxI_spec x p; have m5 := mxI_spec y q; have m6 := mxI_spec z r; unfold TD; exact ((if_neg (by omega)).trans ((if_neg (by omega)).trans ((if_neg (by omega)).trans ((if_neg (by omega)).trans ((if_neg (by omega)).trans (if_neg (by omega)))))))) (by decide) (by decide))
      · refine All.br' (fun (h8 : r = w) => ?_) (fun (h8 : r ≠ w) => ?_)
        · exact All.ret (tv_is (n := 4) (m := 4) (c := 0) (by have m1 := mnI_spec u s; have m2 := mnI_spec v t; have m3 := mnI_spec w e; have m4 := mxI_spec x p; have m5 := mxI_spec y q; have m6 := mxI_spec z r; unfold TD; exact ((if_neg (by omega)).trans ((if_neg (by omega)).trans ((if_neg (by omega)).trans ((if_neg (by omega)).trans (if_pos (by omega))))))) (by decide) (by decide))
        · refine All.br' (fun (h9 : e = z) => ?_) (fun (h9 : e ≠ z) => ?_)
          · exact All.ret (tv_is (n := 5) (m := 5) (c := 0) (by have m1 := mnI_spec u s; have m2 := mnI_spec v t; have m3 := mnI_spec w e; have m4 := mxI_spec x p; have m5 := mxI_spec y q; have m6 := mxI_spec z r; unfold TD; exact ((if_neg (by omega)).trans ((if_neg (by omega)).trans ((if_neg (by omega)).trans ((if_neg (by omega)).trans ((if_neg (by omega)).trans (if_pos (by omega)))))))) (by decide) (by decide))
          · exact All.ret (tv_is (n := 6) (m := 0) (c := 9) (by have m1 := mnI_spec u s; have m2 := mnI_spec v t; have m3 := mnI_spec w e; have m4 := mxI_spec x p; have m5 := mxI_spec y q; have m6 := mxI_spec z r; unfold TD; exact ((if_neg (by omega)).trans ((if_neg (by omega)).trans ((if_neg (by omega)).trans ((if_neg (by omega)).trans ((if_neg (by omega)).trans (if_neg (by omega)))))))) (by decide) (by decide))
    · refine All.br' (fun (h10 : p = u) => ?_) (fun (h10 : p ≠ u) => ?_)
      · exact All.ret (tv_is (n := 0) (m := 0) (c := 0) (by have m1 := mnI_spec u s; have m2 := mnI_spec v t; have m3 := mnI_spec w e; have m4 := mxI_spec x p; have m5 := mxI_spec y q; have m6 := mxI_spec z r; unfold TD; exact (if_pos (by omega))) (by decide) (by decide))
      · refine All.br' (fun (h11 : s = x) => ?_) (fun (h11 : s ≠ x) => ?_)
        · exact All.ret (tv_is (n := 1) (m := 1) (c := 0) (by have m1 := mnI_spec u s; have m2 := mnI_spec v t; have m3 := mnI_spec w e; have m4 := mxI_spec x p; have m5 := mxI_spec y q; have m6 := mxI_spec z r; unfold TD; exact ((if_neg (by omega)).trans (if_pos (by omega)))) (by decide) (by decide))
        · refine All.br' (fun (h12 : (mnI u s) ≤ (mxI x p)) => ?_) (fun (h12 : (mxI x p) < (mnI u s)) => ?_)
          · exact All.ret (tv_is (n := 6) (m := 0) (c := 9) (by have m1 := mnI_spec u s; have m2 := mnI_spec v t; have m3 := mnI_spec w e; have m4 := mxI_spec x p; have m5 := mxI_spec y q; have m6 := mxI_spec z r; unfold TD; exact ((if_neg (by omega)).trans ((if_neg (by omega)).trans ((if_neg (by omega)).trans ((if_neg (by omega)).trans ((if_neg (by omega)).trans (if_neg (by omega)))))))) (by decide) (by decide))
          · refine All.br' (fun (h13 : q = v) => ?_) (fun (h13 : q ≠ v) => ?_)
            · exact All.ret (tv_is (n := 2) (m := 2) (c := 0) (by have m1 := mnI_spec u s; have m2 := mnI_spec v t; have m3 := mnI_spec w e; have m4 := mxI_spec x p; have m5 := mxI_spec y q; have m6 := mxI_spec z r; unfold TD; exact ((if_neg (by omega)).trans ((if_neg (by omega)).trans (if_pos (by omega))))) (by decide) (by decide))
            · refine All.br' (fun (h14 : t = y) => ?_) (fun (h14 : t ≠ y) => ?_)
              · exact All.ret (tv_is (n := 3) (m := 3) (c := 0) (by have m1 := mnI_spec u s; have m2 := mnI_spec v t; have m3 := mnI_spec w e; have m4 := mxI_spec x p; have m5 := mxI_spec y q; have m6 := mxI_spec z r; unfold TD; exact ((if_neg (by omega)).trans ((if_neg (by omega)).trans ((if_neg (by omega)).trans (if_pos (by omega)))))) (by decide) (by decide))
              · refine All.br' (fun (h15 : r = w) => ?_) (fun (h15 : r ≠ w) => ?_)
                · exact All.ret (tv_is (n := 4) (m := 4) (c := 0) (by have m1 := mnI_spec u s; have m2 := mnI_spec v t; have m3 := mnI_spec w e; have m4 := mxI_spec x p; have m5 := mxI_spec y q; have m6 := mxI_spec z r; unfold TD; exact ((if_neg (by omega)).trans ((if_neg (by omega)).trans ((if_neg (by omega)).trans ((if_neg (by omega)).trans (if_pos (by omega))))))) (by decide) (by decide))
                · refine All.br' (fun (h16 : e = z) => ?_) (fun (h16 : e ≠ z) => ?_)
                  · exact All.ret (tv_is (n := 5) (m := 5) (c := 0) (by have m1 := mnI_spec u s; have m2 := mnI_spec v t; have m3 := mnI_spec w e; have m4 := mxI_spec x p; have m5 := mxI_spec y q; have m6 := mxI_spec z r; unfold TD; exact ((if_neg (by omega)).trans ((if_neg (by omega)).trans ((if_neg (by omega)).trans ((if_neg (by omega)).trans ((if_neg (by omega)).trans (if_pos (by omega)))))))) (by decide) (by decide))
                  · exact All.ret (tv_is (n := 6) (m := 0) (c := 9) (by have m1 := mnI_spec u s; have m2 := mnI_spec v t; have m3 := mnI_spec w e; have m4 := mxI_spec x p; have m5 := mxI_spec y q; have m6 := mxI_spec z r; unfold TD; exact ((if_neg (by omega)).trans ((if_neg (by omega)).trans ((if_neg (by omega)).trans ((if_neg (by omega)).trans ((if_neg (by omega)).trans (if_neg (by omega)))))))) (by decide) (by decide))
theorem bTouch_at {x y z u v w p q r s t e n m c : Int} (ha : VB x y z u v w) (hb : VB p q r s t e) (h : TD x y z u v w p q r s t e = n) (h1 : tdN n = m) (h2 : teN n = c) (W : World) : Calls Try.prog 31 #[.agg #[.int .i64 x, .int .i64 y, .int .i64 z, .int .i64 u, .int .i64 v, .int .i64 w], .agg #[.int .i64 p, .int .i64 q, .int .i64 r, .int .i64 s, .int .i64 t, .int .i64 e]] W fun e' w' => e' = .returned (.tuple #[.int .i64 m, .int .i64 c]) ∧ Below W.heap.size W w' := by
  rw [tv_is h h1 h2]; exact bTouch_any ha hb W
abbrev volI (x y z u v w : Int) : Int := (u - x) * (v - y) * (w - z)
theorem bVolume_tree : tree Try.prog [] okA 300 20 13 [.agg (iv 0 6)] = (.ret (.tup [⟨false, [(.int .i64 (.mul (.mul (.sub (.at 3) (.at 0)) (.sub (.at 4) (.at 1))) (.sub (.at 5) (.at 2))))]⟩, ⟨false, [(.int .i64 (.lit (0)))]⟩])) := by kernel_rfl
theorem bVolume_any {x y z u v w : Int} (ha : VB x y z u v w) (W : World) : Calls Try.prog 13 #[.agg #[.int .i64 x, .int .i64 y, .int .i64 z, .int .i64 u, .int .i64 v, .int .i64 w]] W fun e' w' => e' = .returned (.tuple #[.int .i64 (volI x y z u v w), .int .i64 0]) ∧ Below W.heap.size W w' :=
  tree_fun (ρ := envX [x, y, z, u, v, w] []) .nil (okA_ok ha) wide bVolume_tree (by kernel_rfl) rfl (u := .tuple #[.int .i64 (volI x y z u v w), .int .i64 0]) (All.ret rfl) W
theorem bVolume_at {x y z u v w m : Int} (ha : VB x y z u v w) (h : volI x y z u v w = m) (W : World) : Calls Try.prog 13 #[.agg #[.int .i64 x, .int .i64 y, .int .i64 z, .int .i64 u, .int .i64 v, .int .i64 w]] W fun e' w' => e' = .returned (.tuple #[.int .i64 m, .int .i64 0]) ∧ Below W.heap.size W w' := by
  subst h; exact bVolume_any ha W
theorem bMove_no {x y z u v w i j k : Int} (hv : VB x y z u v w) (h : ¬ MvO x y z u v w i j k) (W : World) : Calls Try.prog 14 #[.agg #[.int .i64 x, .int .i64 y, .int .i64 z, .int .i64 u, .int .i64 v, .int .i64 w], .agg #[.int .i64 i, .int .i64 j, .int .i64 k]] W fun e' w' => e' = .returned (.tuple #[.agg #[.int .i64 0, .int .i64 0, .int .i64 0, .int .i64 0, .int .i64 0, .int .i64 0], .int .i64 6]) ∧ Below W.heap.size W w' := by
  rw [mv_no h]; exact bMove_any 0 0 0 0 0 0 i j k hv W
theorem bMove_to {x y z u v w i j k x' y' z' u' v' w' : Int} (hv : VB x y z u v w) (h : MvO x y z u v w i j k) (h1 : x + i = x') (h2 : y + j = y') (h3 : z + k = z') (h4 : u + i = u') (h5 : v + j = v') (h6 : w + k = w') (W : World) : Calls Try.prog 14 #[.agg #[.int .i64 x, .int .i64 y, .int .i64 z, .int .i64 u, .int .i64 v, .int .i64 w], .agg #[.int .i64 i, .int .i64 j, .int .i64 k]] W fun e' w'' => e' = .returned (.tuple #[.agg #[.int .i64 x', .int .i64 y', .int .i64 z', .int .i64 u', .int .i64 v', .int .i64 w'], .int .i64 0]) ∧ Below W.heap.size W w'' := by
  subst h1; subst h2; subst h3; subst h4; subst h5; subst h6
  rw [mv_plain h]; exact bMove_any 0 0 0 0 0 0 i j k hv W
theorem bOverlap_at {x y z u v w p q r s t e m : Int} (h : tr (decide (OvlP x y z u v w p q r s t e)) = m) (W : World) : Calls Try.prog 29 #[.agg #[.int .i64 x, .int .i64 y, .int .i64 z, .int .i64 u, .int .i64 v, .int .i64 w], .agg #[.int .i64 p, .int .i64 q, .int .i64 r, .int .i64 s, .int .i64 t, .int .i64 e]] W fun e' w' => e' = .returned (.bool (m == 1)) ∧ Below W.heap.size W w' := by
  subst h; exact bOverlap_any x y z u v w p q r s t e 0 0 0 W
end Go.Proofs.Ytnciilkcdemnjaa
