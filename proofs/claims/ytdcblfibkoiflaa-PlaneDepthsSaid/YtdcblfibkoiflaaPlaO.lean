/- The walks of PlaneBoxes and PlaneDepths. -/
import Derived.Test.YtdcblfibkoiflaaPlaN
namespace Go.Proofs.Ytdcblfibkoiflaa
open Go.RowKit
def rX : Con := [(21, [.agg (iv 0 4), .agg (iv 4 6)], .tup [⟨false, [.int .i64 (.at 22)]⟩, ⟨false, [.int .i64 (.at 23)]⟩])]
theorem conApp {P : Program} {ρ : Env} {x y : Con} (hx : ConOk P ρ x) (hy : ConOk P ρ y) : ConOk P ρ (x ++ y) := by
  intro f args v h
  rcases List.mem_append.1 h with h | h
  · exact hx f args v h
  · exact hy f args v h
theorem rX_ok {a b c d x y z u v w : Int} (h1 : chkH a b c d = 0) (h2 : chkB x y z u v w = 0) (e f : Int) (xs ys : List Int) : ConOk Try.prog (envX (a :: b :: c :: d :: x :: y :: z :: u :: v :: w :: xs) (e :: f :: loE a b c d x y z u v w :: hiE a b c d x y z u v w :: ys)) rX := .cons (fun _ W => rExtremes_any h1 h2 W) .nil
theorem bxT1 : treeB Try.prog conC badH 300 20 4 [.agg (iv 0 4), .agg (iv 4 6)] = .ret (.one (.bool (.lit true))) := by kernel_rfl
theorem bxT2 : treeB Try.prog conC badB 300 20 4 [.agg (iv 0 4), .agg (iv 4 6)] = .ret (.one (.bool (.lit true))) := by kernel_rfl
theorem bxT3 : treeB Try.prog (rX ++ conX) (inF ++ okS) 300 20 4 [.agg (iv 0 4), .agg (iv 4 6)] = .ret (.one (.bool (.lit true))) := by kernel_rfl
theorem bxT4 : treeB Try.prog (rX ++ conX) (outF ++ okS) 300 20 4 [.agg (iv 0 4), .agg (iv 4 6)] = .ret (.one (.bool (.lit true))) := by kernel_rfl
theorem bxT5 : treeB Try.prog (rX ++ conX) (acF ++ okS) 300 20 4 [.agg (iv 0 4), .agg (iv 4 6)] = .ret (.one (.bool (.lit true))) := by kernel_rfl
theorem boxes_walk (a b c d x y z u v w : Int) (W : World) : Calls Try.prog 4 #[.agg #[.int .i64 a, .int .i64 b, .int .i64 c, .int .i64 d], .agg #[.int .i64 x, .int .i64 y, .int .i64 z, .int .i64 u, .int .i64 v, .int .i64 w]] W fun e w' => e = .returned (.bool true) ∧ Below W.heap.size W w' := by
  by_cases h1 : chkH a b c d = 0
  · by_cases h2 : chkB x y z u v w = 0
    · have hc := conApp (rX_ok h1 h2 _ _ [] []) (conX_ok h1 h2 [] [])
      have ho := okS_ok h1 h2 [] [loE a b c d x y z u v w, hiE a b c d x y z u v w]
      rcases parts _ _ (lo_lt_hi h1 h2) [a, b, c, d, x, y, z, u, v, w] (chkH a b c d) (chkB x y z u v w) [] with h | h | h
      · exact tree_law hc (h.app ho) wide bxT3 (by kernel_rfl) rfl Good.yes W
      · exact tree_law hc (h.app ho) wide bxT4 (by kernel_rfl) rfl Good.yes W
      · exact tree_law hc (h.app ho) wide bxT5 (by kernel_rfl) rfl Good.yes W
    · exact tree_law (conC_ok a b c d x y z u v w [] []) (pc := badB) (.cons' h1 (.cons' h2 .nil)) wide bxT2 (by kernel_rfl) rfl Good.yes W
  · exact tree_law (conC_ok a b c d x y z u v w [] []) (pc := badH) (.cons' h1 .nil) wide bxT1 (by kernel_rfl) rfl Good.yes W
theorem slT0 : tree Try.prog [] rH 300 20 53 [.agg (iv 0 4), li 0] = .ret (.one (.int .i64 (.at 0))) := by kernel_rfl
theorem slT1 : tree Try.prog [] rH 300 20 53 [.agg (iv 0 4), li 1] = .ret (.one (.int .i64 (.sub (.lit 0) (.at 0)))) := by kernel_rfl
theorem slT2 : tree Try.prog [] rH 300 20 53 [.agg (iv 0 4), li 2] = .ret (.one (.int .i64 (.at 1))) := by kernel_rfl
theorem slT3 : tree Try.prog [] rH 300 20 53 [.agg (iv 0 4), li 3] = .ret (.one (.int .i64 (.sub (.lit 0) (.at 1)))) := by kernel_rfl
theorem slT4 : tree Try.prog [] rH 300 20 53 [.agg (iv 0 4), li 4] = .ret (.one (.int .i64 (.at 2))) := by kernel_rfl
theorem slT5 : tree Try.prog [] rH 300 20 53 [.agg (iv 0 4), li 5] = .ret (.one (.int .i64 (.sub (.lit 0) (.at 2)))) := by kernel_rfl
theorem rSlope_any {a b c d k : Int} (h : chkH a b c d = 0) (h1 : 0 ≤ k) (h2 : k ≤ 5) (W : World) : Calls Try.prog 53 #[.agg #[.int .i64 a, .int .i64 b, .int .i64 c, .int .i64 d], .int .i64 k] W fun e w' => e = .returned (.int .i64 (slopeS k a b c)) ∧ Below W.heap.size W w' := by
  have hp : PC.Ok (envX [a, b, c, d] []) rH := rH_ok h
  rcases six h1 h2 with rfl | rfl | rfl | rfl | rfl | rfl
  · exact tree_fun .nil hp wide slT0 (by kernel_rfl) rfl (All.ret rfl) W
  · exact tree_fun .nil hp wide slT1 (by kernel_rfl) rfl (All.ret rfl) W
  · exact tree_fun .nil hp wide slT2 (by kernel_rfl) rfl (All.ret rfl) W
  · exact tree_fun .nil hp wide slT3 (by kernel_rfl) rfl (All.ret rfl) W
  · exact tree_fun .nil hp wide slT4 (by kernel_rfl) rfl (All.ret rfl) W
  · exact tree_fun .nil hp wide slT5 (by kernel_rfl) rfl (All.ret rfl) W
theorem slope_bd {a b c d k : Int} (h : chkH a b c d = 0) : -1000 ≤ slopeS k a b c ∧ slopeS k a b c ≤ 1000 := by
  obtain ⟨ha, hb, hc, _⟩ := chkH_ok h
  unfold slopeS
  (repeat' split) <;> omega
def dpC (n e : IE) : Con := [(30, [.agg (iv 0 4), .agg (iv 4 6), i1 10, i1 11], .tup [⟨false, [.int .i64 n]⟩, ⟨false, [.int .i64 e]⟩])]
theorem dpC_ok {a b c d x y z u v w k m : Int} {ys : List Int} {n e : IE} (hn : n.den (envX [a, b, c, d, x, y, z, u, v, w, k, m] ys) = dpN a b c d x y z u v w k m) (he : e.den (envX [a, b, c, d, x, y, z, u, v, w, k, m] ys) = dpE a b c d x y z u v w k m) : ConOk Try.prog (envX [a, b, c, d, x, y, z, u, v, w, k, m] ys) (dpC n e) := by
  refine .cons (fun _ W => ?_) .nil
  have := pDepth_any a b c d x y z u v w k m W
  rw [← hn, ← he] at this
  exact this
theorem den_mnq (ρ : Env) (i j k : Nat) : (IE.mn (.at i) (.quo (.sub (.lit 0) (.at j)) (.at k))).den ρ = mnI (ρ.v i) (Int.tdiv (0 - ρ.v j) (ρ.v k)) := rfl
def slC : Con := [(53, [.agg (iv 0 4), i1 10], i1 24)]
def r24 : PC := rg 24 (-1000) 1000
def kOk : PC := [(.lt (.at 10) (.lit 0), false), (.lt (.lit 5) (.at 10), false)]
def mOk : PC := [(.lt (.at 11) (.lit 0), false), (.lt (.lit 1000000) (.at 11), false)]
def dS : PC := kOk ++ (mOk ++ okS)
theorem dhT1 : treeB Try.prog (dpC (.lit 0) (.at 20) ++ conC) badH 300 20 7 [.agg (iv 0 4), .agg (iv 4 6), i1 10, i1 11] = .ret (.one (.bool (.lit true))) := by kernel_rfl
theorem dhT2 : treeB Try.prog (dpC (.lit 0) (.at 21) ++ conC) badB 300 20 7 [.agg (iv 0 4), .agg (iv 4 6), i1 10, i1 11] = .ret (.one (.bool (.lit true))) := by kernel_rfl
theorem dhT3 : treeB Try.prog (dpC (.lit 0) (.lit 6) ++ (rX ++ conX)) ([(.lt (.at 10) (.lit 0), true)] ++ okS) 300 20 7 [.agg (iv 0 4), .agg (iv 4 6), i1 10, i1 11] = .ret (.one (.bool (.lit true))) := by kernel_rfl
theorem dhT4 : treeB Try.prog (dpC (.lit 0) (.lit 6) ++ (rX ++ conX)) ([(.lt (.lit 5) (.at 10), true)] ++ okS) 300 20 7 [.agg (iv 0 4), .agg (iv 4 6), i1 10, i1 11] = .ret (.one (.bool (.lit true))) := by kernel_rfl
theorem dhT5 : treeB Try.prog (dpC (.lit 0) (.lit 6) ++ (rX ++ conX)) ([(.lt (.at 11) (.lit 0), true)] ++ (kOk ++ okS)) 300 20 7 [.agg (iv 0 4), .agg (iv 4 6), i1 10, i1 11] = .ret (.one (.bool (.lit true))) := by kernel_rfl
theorem dhT6 : treeB Try.prog (dpC (.lit 0) (.lit 6) ++ (rX ++ conX)) ([(.lt (.lit 1000000) (.at 11), true)] ++ (kOk ++ okS)) 300 20 7 [.agg (iv 0 4), .agg (iv 4 6), i1 10, i1 11] = .ret (.one (.bool (.lit true))) := by kernel_rfl
theorem dhT7 : treeB Try.prog (dpC (.lit 0) (.lit 8) ++ (rX ++ conX)) (outF ++ dS) 300 20 7 [.agg (iv 0 4), .agg (iv 4 6), i1 10, i1 11] = .ret (.one (.bool (.lit true))) := by kernel_rfl
theorem dhT8 : treeB Try.prog (dpC (.lit 0) (.lit 8) ++ (rX ++ conX)) (acF ++ dS) 300 20 7 [.agg (iv 0 4), .agg (iv 4 6), i1 10, i1 11] = .ret (.one (.bool (.lit true))) := by kernel_rfl
theorem dhT9 : treeB Try.prog (dpC (.at 11) (.lit 0) ++ (slC ++ (rX ++ conX))) ([(.le (.at 24) (.lit 0), true)] ++ (inF ++ (r23 ++ (r24 ++ dS)))) 300 20 7 [.agg (iv 0 4), .agg (iv 4 6), i1 10, i1 11] = .ret (.one (.bool (.lit true))) := by kernel_rfl
theorem dhT10 : treeB Try.prog (dpC (.mn (.at 11) (.quo (.sub (.lit 0) (.at 23)) (.at 24))) (.lit 0) ++ (slC ++ (rX ++ conX))) ([(.le (.at 24) (.lit 0), false)] ++ (inF ++ (r23 ++ (r24 ++ dS)))) 300 20 7 [.agg (iv 0 4), .agg (iv 4 6), i1 10, i1 11] = .ret (.one (.bool (.lit true))) := by kernel_rfl
theorem depths_walk (a b c d x y z u v w k m : Int) (W : World) : Calls Try.prog 7 #[.agg #[.int .i64 a, .int .i64 b, .int .i64 c, .int .i64 d], .agg #[.int .i64 x, .int .i64 y, .int .i64 z, .int .i64 u, .int .i64 v, .int .i64 w], .int .i64 k, .int .i64 m] W fun e w' => e = .returned (.bool true) ∧ Below W.heap.size W w' := by
  have hsd : sdE a b c d x y z u v w = if chkH a b c d = 0 then chkB x y z u v w else chkH a b c d := rfl
  by_cases h1 : chkH a b c d = 0
  case neg =>
    rw [if_neg h1] at hsd
    have e1 : dpE a b c d x y z u v w k m = chkH a b c d := by unfold dpE; rw [hsd, if_neg h1]
    have e2 : dpN a b c d x y z u v w k m = 0 := by unfold dpN; rw [e1, if_neg h1]
    exact tree_law (conApp (dpC_ok (ys := [chkH a b c d, chkB x y z u v w]) (n := .lit 0) (e := .at 20) e2.symm e1.symm) (conC_ok a b c d x y z u v w [k, m] [])) (pc := badH) (.cons' h1 .nil) wide dhT1 (by kernel_rfl) rfl Good.yes W
  rw [if_pos h1] at hsd
  by_cases h2 : chkB x y z u v w = 0
  case neg =>
    have e1 : dpE a b c d x y z u v w k m = chkB x y z u v w := by unfold dpE; rw [hsd, if_neg h2]
    have e2 : dpN a b c d x y z u v w k m = 0 := by unfold dpN; rw [e1, if_neg h2]
    exact tree_law (conApp (dpC_ok (ys := [chkH a b c d, chkB x y z u v w]) (n := .lit 0) (e := .at 21) e2.symm e1.symm) (conC_ok a b c d x y z u v w [k, m] [])) (pc := badB) (.cons' h1 (.cons' h2 .nil)) wide dhT2 (by kernel_rfl) rfl Good.yes W
  rw [h2] at hsd
  have hX : ConOk Try.prog (envX [a, b, c, d, x, y, z, u, v, w, k, m] [chkH a b c d, chkB x y z u v w, loE a b c d x y z u v w, hiE a b c d x y z u v w, slopeS k a b c]) (rX ++ conX) := conApp (rX_ok h1 h2 _ _ [k, m] [slopeS k a b c]) (conX_ok h1 h2 [k, m] [slopeS k a b c])
  have hO : PC.Ok (envX [a, b, c, d, x, y, z, u, v, w, k, m] [chkH a b c d, chkB x y z u v w, loE a b c d x y z u v w, hiE a b c d x y z u v w, slopeS k a b c]) okS := okS_ok h1 h2 [k, m] [loE a b c d x y z u v w, hiE a b c d x y z u v w, slopeS k a b c]
  have e1 : dpE a b c d x y z u v w k m = if k < 0 ∨ 5 < k ∨ m < 0 ∨ 1000000 < m then 6 else if 0 < hiE a b c d x y z u v w then 8 else 0 := if_pos hsd
  have six' : dpE a b c d x y z u v w k m = 6 → ConOk Try.prog (envX [a, b, c, d, x, y, z, u, v, w, k, m] [chkH a b c d, chkB x y z u v w, loE a b c d x y z u v w, hiE a b c d x y z u v w, slopeS k a b c]) (dpC (.lit 0) (.lit 6) ++ (rX ++ conX)) := fun h => conApp (dpC_ok (n := .lit 0) (e := .lit 6) (show (0 : Int) = _ by unfold dpN; rw [h]; rfl) (show (6 : Int) = _ from h.symm)) hX
  by_cases k1 : k < 0
  · have hp : PC.Ok (envX [a, b, c, d, x, y, z, u, v, w, k, m] [chkH a b c d, chkB x y z u v w, loE a b c d x y z u v w, hiE a b c d x y z u v w, slopeS k a b c]) [(.lt (.at 10) (.lit 0), true)] := .cons' k1 .nil
    exact tree_law (six' (by rw [e1, if_pos (by omega)])) (hp.app hO) wide dhT3 (by kernel_rfl) rfl Good.yes W
  by_cases k2 : 5 < k
  · have hp : PC.Ok (envX [a, b, c, d, x, y, z, u, v, w, k, m] [chkH a b c d, chkB x y z u v w, loE a b c d x y z u v w, hiE a b c d x y z u v w, slopeS k a b c]) [(.lt (.lit 5) (.at 10), true)] := .cons' k2 .nil
    exact tree_law (six' (by rw [e1, if_pos (by omega)])) (hp.app hO) wide dhT4 (by kernel_rfl) rfl Good.yes W
  have hK : PC.Ok (envX [a, b, c, d, x, y, z, u, v, w, k, m] [chkH a b c d, chkB x y z u v w, loE a b c d x y z u v w, hiE a b c d x y z u v w, slopeS k a b c]) kOk := .cons' (Int.not_lt.1 k1) (.cons' (Int.not_lt.1 k2) .nil)
  by_cases m1 : m < 0
  · have hp : PC.Ok (envX [a, b, c, d, x, y, z, u, v, w, k, m] [chkH a b c d, chkB x y z u v w, loE a b c d x y z u v w, hiE a b c d x y z u v w, slopeS k a b c]) [(.lt (.at 11) (.lit 0), true)] := .cons' m1 .nil
    exact tree_law (six' (by rw [e1, if_pos (by omega)])) (hp.app (hK.app hO)) wide dhT5 (by kernel_rfl) rfl Good.yes W
  by_cases m2 : 1000000 < m
  · have hp : PC.Ok (envX [a, b, c, d, x, y, z, u, v, w, k, m] [chkH a b c d, chkB x y z u v w, loE a b c d x y z u v w, hiE a b c d x y z u v w, slopeS k a b c]) [(.lt (.lit 1000000) (.at 11), true)] := .cons' m2 .nil
    exact tree_law (six' (by rw [e1, if_pos (by omega)])) (hp.app (hK.app hO)) wide dhT6 (by kernel_rfl) rfl Good.yes W
  have hM : PC.Ok (envX [a, b, c, d, x, y, z, u, v, w, k, m] [chkH a b c d, chkB x y z u v w, loE a b c d x y z u v w, hiE a b c d x y z u v w, slopeS k a b c]) mOk := .cons' (Int.not_lt.1 m1) (.cons' (Int.not_lt.1 m2) .nil)
  have hD : PC.Ok (envX [a, b, c, d, x, y, z, u, v, w, k, m] [chkH a b c d, chkB x y z u v w, loE a b c d x y z u v w, hiE a b c d x y z u v w, slopeS k a b c]) dS := hK.app (hM.app hO)
  rw [if_neg (by omega)] at e1
  by_cases hh : 0 < hiE a b c d x y z u v w
  · rw [if_pos hh] at e1
    have hC : ConOk Try.prog (envX [a, b, c, d, x, y, z, u, v, w, k, m] [chkH a b c d, chkB x y z u v w, loE a b c d x y z u v w, hiE a b c d x y z u v w, slopeS k a b c]) (dpC (.lit 0) (.lit 8) ++ (rX ++ conX)) := conApp (dpC_ok (n := .lit 0) (e := .lit 8) (show (0 : Int) = _ by unfold dpN; rw [e1]; rfl) (show (8 : Int) = _ from e1.symm)) hX
    have hll := lo_lt_hi h1 h2
    by_cases hl : 0 ≤ loE a b c d x y z u v w
    · have hp : PC.Ok (envX [a, b, c, d, x, y, z, u, v, w, k, m] [chkH a b c d, chkB x y z u v w, loE a b c d x y z u v w, hiE a b c d x y z u v w, slopeS k a b c]) outF := .cons' hh (.cons' hl (.cons' hll .nil))
      exact tree_law hC (hp.app hD) wide dhT7 (by kernel_rfl) rfl Good.yes W
    · have hp : PC.Ok (envX [a, b, c, d, x, y, z, u, v, w, k, m] [chkH a b c d, chkB x y z u v w, loE a b c d x y z u v w, hiE a b c d x y z u v w, slopeS k a b c]) acF := .cons' hh (.cons' (Int.not_le.1 hl) (.cons' hll .nil))
      exact tree_law hC (hp.app hD) wide dhT8 (by kernel_rfl) rfl Good.yes W
  · rw [if_neg hh] at e1
    have hll := lo_lt_hi h1 h2
    have hb := hi_bd h1 h2
    have hs := slope_bd (k := k) h1
    have e2 : dpN a b c d x y z u v w k m = if slopeS k a b c ≤ 0 then m else mnI m (Int.tdiv (0 - hiE a b c d x y z u v w) (slopeS k a b c)) := if_pos e1
    have hI : PC.Ok (envX [a, b, c, d, x, y, z, u, v, w, k, m] [chkH a b c d, chkB x y z u v w, loE a b c d x y z u v w, hiE a b c d x y z u v w, slopeS k a b c]) inF := .cons' (Int.not_lt.1 hh) (.cons' (show loE a b c d x y z u v w < 0 by omega) (.cons' hll .nil))
    have hR : PC.Ok (envX [a, b, c, d, x, y, z, u, v, w, k, m] [chkH a b c d, chkB x y z u v w, loE a b c d x y z u v w, hiE a b c d x y z u v w, slopeS k a b c]) (inF ++ (r23 ++ (r24 ++ dS))) := hI.app (PC.Ok.app (rg_ok hb.1 hb.2) (PC.Ok.app (rg_ok hs.1 hs.2) hD))
    have hS : ConOk Try.prog (envX [a, b, c, d, x, y, z, u, v, w, k, m] [chkH a b c d, chkB x y z u v w, loE a b c d x y z u v w, hiE a b c d x y z u v w, slopeS k a b c]) (slC ++ (rX ++ conX)) := conApp (.cons (fun _ W => rSlope_any h1 (Int.not_lt.1 k1) (Int.not_lt.1 k2) W) .nil) hX
    by_cases hz : slopeS k a b c ≤ 0
    · rw [if_pos hz] at e2
      have hp : PC.Ok (envX [a, b, c, d, x, y, z, u, v, w, k, m] [chkH a b c d, chkB x y z u v w, loE a b c d x y z u v w, hiE a b c d x y z u v w, slopeS k a b c]) [(.le (.at 24) (.lit 0), true)] := .cons' hz .nil
      exact tree_law (conApp (dpC_ok (n := .at 11) (e := .lit 0) e2.symm e1.symm) hS) (hp.app hR) wide dhT9 (by kernel_rfl) rfl Good.yes W
    · rw [if_neg hz] at e2
      have hp : PC.Ok (envX [a, b, c, d, x, y, z, u, v, w, k, m] [chkH a b c d, chkB x y z u v w, loE a b c d x y z u v w, hiE a b c d x y z u v w, slopeS k a b c]) [(.le (.at 24) (.lit 0), false)] := .cons' (Int.not_le.1 hz) .nil
      have e3 : (IE.mn (.at 11) (.quo (.sub (.lit 0) (.at 23)) (.at 24))).den (envX [a, b, c, d, x, y, z, u, v, w, k, m] [chkH a b c d, chkB x y z u v w, loE a b c d x y z u v w, hiE a b c d x y z u v w, slopeS k a b c]) = dpN a b c d x y z u v w k m := by
        rw [den_mnq, e2]
        rfl
      have e4 : (IE.lit 0).den (envX [a, b, c, d, x, y, z, u, v, w, k, m] [chkH a b c d, chkB x y z u v w, loE a b c d x y z u v w, hiE a b c d x y z u v w, slopeS k a b c]) = dpE a b c d x y z u v w k m := e1.symm
      exact tree_law (conApp (dpC_ok e3 e4) hS) (hp.app hR) wide dhT10 (by kernel_rfl) rfl Good.yes W
end Go.Proofs.Ytdcblfibkoiflaa
