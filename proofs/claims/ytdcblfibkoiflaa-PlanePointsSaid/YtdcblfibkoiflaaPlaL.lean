/- Value at all inputs; the walk of PlanePoints. -/
import Derived.Test.YtdcblfibkoiflaaPlaK
namespace Go.Proofs.Ytdcblfibkoiflaa
open Go.RowKit
def vE (x y z : Int) : Int := if x < -1000000 ∨ 1000000 < x ∨ y < -1000000 ∨ 1000000 < y ∨ z < -1000000 ∨ 1000000 < z then 6 else 0
def vV (a b c d x y z : Int) : Int := if vE x y z = 0 then a * x + b * y + c * z - d else 0
def conV : Con := [(14, [.agg (iv 0 4)], li' 0)]
theorem vlT : tree Try.prog conV rH 300 20 13 [.agg (iv 0 4), .agg (iv 8 3)] = (.br (.lt (.at 8) (.lit (-1000000))) (.ret (.tup [⟨false, [.int .i64 (.lit 0)]⟩, ⟨false, [.int .i64 (.lit 6)]⟩])) (.br (.lt (.lit 1000000) (.at 8)) (.ret (.tup [⟨false, [.int .i64 (.lit 0)]⟩, ⟨false, [.int .i64 (.lit 6)]⟩])) (.br (.lt (.at 9) (.lit (-1000000))) (.ret (.tup [⟨false, [.int .i64 (.lit 0)]⟩, ⟨false, [.int .i64 (.lit 6)]⟩])) (.br (.lt (.lit 1000000) (.at 9)) (.ret (.tup [⟨false, [.int .i64 (.lit 0)]⟩, ⟨false, [.int .i64 (.lit 6)]⟩])) (.br (.lt (.at 10) (.lit (-1000000))) (.ret (.tup [⟨false, [.int .i64 (.lit 0)]⟩, ⟨false, [.int .i64 (.lit 6)]⟩])) (.br (.lt (.lit 1000000) (.at 10)) (.ret (.tup [⟨false, [.int .i64 (.lit 0)]⟩, ⟨false, [.int .i64 (.lit 6)]⟩])) (.ret (.tup [⟨false, [.int .i64 (.sub (.add (.add (.mul (.at 0) (.at 8)) (.mul (.at 1) (.at 9))) (.mul (.at 2) (.at 10))) (.at 3))]⟩, ⟨false, [.int .i64 (.lit 0)]⟩])))))))) := by kernel_rfl
theorem vlX : tree Try.prog conN badH 300 20 13 [.agg (iv 0 4), .agg (iv 8 3)] = .ret (.tup [⟨false, [.int .i64 (.lit 0)]⟩, ⟨false, [.int .i64 (.at 20)]⟩]) := by kernel_rfl
theorem vtup {p q p' q' : Int} (h1 : p = p') (h2 : q = q') : (Value.tuple #[.int .i64 p, .int .i64 q]) = .tuple #[.int .i64 p', .int .i64 q'] := by rw [h1, h2]
theorem pValue_ok {a b c d : Int} (h : chkH a b c d = 0) (x y z : Int) (W : World) : Calls Try.prog 13 #[.agg #[.int .i64 a, .int .i64 b, .int .i64 c, .int .i64 d], .agg #[.int .i64 x, .int .i64 y, .int .i64 z]] W fun e w' =>
    e = .returned (.tuple #[.int .i64 (vV a b c d x y z), .int .i64 (vE x y z)]) ∧ Below W.heap.size W w' := by
  obtain ⟨ha, hb, hc, hd, _⟩ := chkH_ok h
  have hcon : ConOk Try.prog (envX [a, b, c, d, 0, 0, 0, 0, x, y, z] []) conV := .cons (fun _ W => by have := pCheckH_any a b c d W; rw [h] at this; exact this) .nil
  refine tree_fun hcon (rH_env ha hb hc hd _) wide vlT (by kernel_rfl) rfl ?_ W
  have bad : (x < -1000000 ∨ 1000000 < x ∨ y < -1000000 ∨ 1000000 < y ∨ z < -1000000 ∨ 1000000 < z) → (Value.tuple #[.int .i64 0, .int .i64 6]) = .tuple #[.int .i64 (vV a b c d x y z), .int .i64 (vE x y z)] := by
    intro hh
    have e : vE x y z = 6 := if_pos hh
    exact vtup (by unfold vV; rw [e]; rfl) e.symm
  refine All.br' (fun (h1 : x < (-1000000)) => All.ret (R := (· = _)) (bad (by omega))) (fun (h1 : (-1000000) ≤ x) => ?_)
  refine All.br' (fun (h2 : (1000000 : Int) < x) => All.ret (R := (· = _)) (bad (by omega))) (fun (h2 : x ≤ (1000000 : Int)) => ?_)
  refine All.br' (fun (h3 : y < (-1000000)) => All.ret (R := (· = _)) (bad (by omega))) (fun (h3 : (-1000000) ≤ y) => ?_)
  refine All.br' (fun (h4 : (1000000 : Int) < y) => All.ret (R := (· = _)) (bad (by omega))) (fun (h4 : y ≤ (1000000 : Int)) => ?_)
  refine All.br' (fun (h5 : z < (-1000000)) => All.ret (R := (· = _)) (bad (by omega))) (fun (h5 : (-1000000) ≤ z) => ?_)
  refine All.br' (fun (h6 : (1000000 : Int) < z) => All.ret (R := (· = _)) (bad (by omega))) (fun (h6 : z ≤ (1000000 : Int)) => ?_)
  have e : vE x y z = 0 := if_neg (by omega)
  exact All.ret (R := (· = _)) (vtup (if_pos e).symm e.symm)
theorem pValue_bad {a b c d : Int} (h : ¬ chkH a b c d = 0) (x y z : Int) (W : World) : Calls Try.prog 13 #[.agg #[.int .i64 a, .int .i64 b, .int .i64 c, .int .i64 d], .agg #[.int .i64 x, .int .i64 y, .int .i64 z]] W fun e w' =>
    e = .returned (.tuple #[.int .i64 0, .int .i64 (chkH a b c d)]) ∧ Below W.heap.size W w' :=
  tree_fun (ρ := envX [a, b, c, d, 0, 0, 0, 0, x, y, z] [chkH a b c d]) (con := conN) (pc := badH) (.cons (fun _ W => pCheckH_any a b c d W) .nil) (.cons' h .nil) wide vlX (by kernel_rfl) rfl (All.ret rfl) W
section
variable {a b c d : Int}
theorem nr_pos (h : chkH a b c d = 0) : 1 ≤ gH a b c ∧ gH a b c ≤ 1000 := by
  obtain ⟨ha, hb, hc, hd, hz⟩ := chkH_ok h
  exact gH_bd ha hb hc hz
theorem nr_chk (h : chkH a b c d = 0) : chkH (a.tdiv (gH a b c)) (b.tdiv (gH a b c)) (c.tdiv (gH a b c)) (d / gH a b c) = 0 := by
  obtain ⟨ha, hb, hc, hd, hz⟩ := chkH_ok h
  have G := gH_bd ha hb hc hz
  have t1 := tdiv_bd (x := a) G.1
  have t2 := tdiv_bd (x := b) G.1
  have t3 := tdiv_bd (x := c) G.1
  have nz := prmV_nz (v := (a, b, c)) (fun e => hz (by simp only [Prod.mk.injEq] at e; exact e))
  have q1 : -4000000000 ≤ d / gH a b c := (Int.le_ediv_iff_mul_le (by omega)).2 (by
    have := Int.mul_nonneg (show (0 : Int) ≤ 4000000000 by omega) (show (0 : Int) ≤ gH a b c - 1 by omega)
    rw [Int.mul_sub] at this
    rw [Int.neg_mul]
    omega)
  have q2 : d / gH a b c < 4000000001 := (Int.ediv_lt_iff_lt_mul (by omega)).2 (by
    have := Int.mul_nonneg (show (0 : Int) ≤ 4000000001 by omega) (show (0 : Int) ≤ gH a b c - 1 by omega)
    rw [Int.mul_sub] at this
    omega)
  have nz' : ¬ (a.tdiv (gH a b c) = 0 ∧ b.tdiv (gH a b c) = 0 ∧ c.tdiv (gH a b c) = 0) := fun ⟨e1, e2, e3⟩ => nz (V3.ext e1 e2 e3)
  generalize d / gH a b c = q at *
  generalize a.tdiv (gH a b c) = x at *
  generalize b.tdiv (gH a b c) = y at *
  generalize c.tdiv (gH a b c) = z at *
  unfold chkH
  rw [if_neg (by omega), if_neg nz']
theorem nr_one (h : chkH a b c d = 0) : gH (a.tdiv (gH a b c)) (b.tdiv (gH a b c)) (c.tdiv (gH a b c)) = 1 := gcdV_prm (v := (a, b, c)) (nr_pos h).1
theorem nr_nr (h : chkH a b c d = 0) : nrV (a.tdiv (gH a b c)) (b.tdiv (gH a b c)) (c.tdiv (gH a b c)) (d / gH a b c) = .agg #[.int .i64 (a.tdiv (gH a b c)), .int .i64 (b.tdiv (gH a b c)), .int .i64 (c.tdiv (gH a b c)), .int .i64 (d / gH a b c)] := by
  unfold nrV
  rw [nr_one h, Int.tdiv_one, Int.tdiv_one, Int.tdiv_one, Int.ediv_one]
theorem val_iff (h : chkH a b c d = 0) (x y z : Int) : vV a b c d x y z ≤ 0 ↔ vV (a.tdiv (gH a b c)) (b.tdiv (gH a b c)) (c.tdiv (gH a b c)) (d / gH a b c) x y z ≤ 0 := by
  unfold vV
  split
  · have G := nr_pos h
    obtain ⟨m1, m2, m3⟩ := prmV_mul (a, b, c)
    have m1 : gH a b c * a.tdiv (gH a b c) = a := m1
    have m2 : gH a b c * b.tdiv (gH a b c) = b := m2
    have m3 : gH a b c * c.tdiv (gH a b c) = c := m3
    generalize gH a b c = g at *
    have k := Int.le_ediv_iff_mul_le (a := a.tdiv g * x + b.tdiv g * y + c.tdiv g * z) (b := d) (c := g) (by omega)
    generalize a.tdiv g = p at *
    generalize b.tdiv g = q at *
    generalize c.tdiv g = r at *
    have e : (p * x + q * y + r * z) * g = a * x + b * y + c * z := by
      rw [← m1, ← m2, ← m3]
      grind
    rw [e] at k
    omega
  · exact Iff.rfl
end
def nn : Con := [(23, [.agg (iv 22 4)], .tup [⟨true, iv 22 4⟩, e0])]
def vv : Con := [(13, [.agg (iv 0 4), .agg (iv 8 3)], .tup [⟨false, [.int .i64 (.at 30)]⟩, ⟨false, [.int .i64 (.at 31)]⟩]), (13, [.agg (iv 22 4), .agg (iv 8 3)], .tup [⟨false, [.int .i64 (.at 32)]⟩, ⟨false, [.int .i64 (.at 31)]⟩]),
  (13, [.agg (iv 4 4), .agg (iv 8 3)], .tup [⟨false, [.int .i64 (.at 33)]⟩, ⟨false, [.int .i64 (.at 34)]⟩])]
def ptN : PC := [(.eq (.at 31) (.lit 0), false)]
def ptJ (b : Bool) : PC := [(.eq (.at 34) (.lit 0), b)]
def ptI : PC := [(.eq (.at 31) (.lit 0), true), (.le (.at 30) (.lit 0), true), (.le (.at 32) (.lit 0), true), (.lt (.lit 0) (.at 30), false)]
def ptO : PC := [(.eq (.at 31) (.lit 0), true), (.le (.at 30) (.lit 0), false), (.le (.at 32) (.lit 0), false), (.lt (.lit 0) (.at 30), true)]
def dif0 : PC := [(.eq (.at 22) (.at 26), false)]
def dif1 : PC := [(.eq (.at 22) (.at 26), true), (.eq (.at 23) (.at 27), false)]
def dif2 : PC := [(.eq (.at 22) (.at 26), true), (.eq (.at 23) (.at 27), true), (.eq (.at 24) (.at 28), false)]
def sam : PC := [(.eq (.at 22) (.at 26), true), (.eq (.at 23) (.at 27), true), (.eq (.at 24) (.at 28), true), (.eq (.at 26) (.at 22), true), (.eq (.at 27) (.at 23), true), (.eq (.at 28) (.at 24), true)]
def dl : PC := [(.eq (.at 25) (.at 29), false), (.le (.at 25) (.at 29), true), (.le (.at 29) (.at 25), false)]
def de : PC := [(.eq (.at 25) (.at 29), true), (.le (.at 25) (.at 29), true), (.le (.at 29) (.at 25), true)]
def dg : PC := [(.eq (.at 25) (.at 29), false), (.le (.at 25) (.at 29), false), (.le (.at 29) (.at 25), true)]
def uI : PC := [(.le (.at 33) (.lit 0), true)]
theorem ptX : treeB Try.prog (aX ++ nC) (fa false) 300 20 8 [.agg (iv 0 4), .agg (iv 4 4), .agg (iv 8 3)] = .ret (.one (.bool (.lit true))) := by kernel_rfl
theorem ptXN : treeB Try.prog (aG ++ (bX ++ (vv ++ (nn ++ nC)))) (ptN ++ (fa true ++ fb false)) 300 20 8 [.agg (iv 0 4), .agg (iv 4 4), .agg (iv 8 3)] = .ret (.one (.bool (.lit true))) := by kernel_rfl
theorem ptXI : treeB Try.prog (aG ++ (bX ++ (vv ++ (nn ++ nC)))) (ptI ++ (fa true ++ fb false)) 300 20 8 [.agg (iv 0 4), .agg (iv 4 4), .agg (iv 8 3)] = .ret (.one (.bool (.lit true))) := by kernel_rfl
theorem ptXO : treeB Try.prog (aG ++ (bX ++ (vv ++ (nn ++ nC)))) (ptO ++ (fa true ++ fb false)) 300 20 8 [.agg (iv 0 4), .agg (iv 4 4), .agg (iv 8 3)] = .ret (.one (.bool (.lit true))) := by kernel_rfl
theorem ptGN : treeB Try.prog (aG ++ (bG ++ (vv ++ (nn ++ nC)))) (ptN ++ (ptJ false ++ (fa true ++ fb true))) 300 20 8 [.agg (iv 0 4), .agg (iv 4 4), .agg (iv 8 3)] = .ret (.one (.bool (.lit true))) := by kernel_rfl
theorem ptD0I : treeB Try.prog (aG ++ (bG ++ (vv ++ (nn ++ nC)))) (dif0 ++ (ptI ++ (ptJ true ++ (fa true ++ fb true)))) 300 20 8 [.agg (iv 0 4), .agg (iv 4 4), .agg (iv 8 3)] = .ret (.one (.bool (.lit true))) := by kernel_rfl
theorem ptD1I : treeB Try.prog (aG ++ (bG ++ (vv ++ (nn ++ nC)))) (dif1 ++ (ptI ++ (ptJ true ++ (fa true ++ fb true)))) 300 20 8 [.agg (iv 0 4), .agg (iv 4 4), .agg (iv 8 3)] = .ret (.one (.bool (.lit true))) := by kernel_rfl
theorem ptD2I : treeB Try.prog (aG ++ (bG ++ (vv ++ (nn ++ nC)))) (dif2 ++ (ptI ++ (ptJ true ++ (fa true ++ fb true)))) 300 20 8 [.agg (iv 0 4), .agg (iv 4 4), .agg (iv 8 3)] = .ret (.one (.bool (.lit true))) := by kernel_rfl
theorem ptD0O : treeB Try.prog (aG ++ (bG ++ (vv ++ (nn ++ nC)))) (dif0 ++ (ptO ++ (ptJ true ++ (fa true ++ fb true)))) 300 20 8 [.agg (iv 0 4), .agg (iv 4 4), .agg (iv 8 3)] = .ret (.one (.bool (.lit true))) := by kernel_rfl
theorem ptD1O : treeB Try.prog (aG ++ (bG ++ (vv ++ (nn ++ nC)))) (dif1 ++ (ptO ++ (ptJ true ++ (fa true ++ fb true)))) 300 20 8 [.agg (iv 0 4), .agg (iv 4 4), .agg (iv 8 3)] = .ret (.one (.bool (.lit true))) := by kernel_rfl
theorem ptD2O : treeB Try.prog (aG ++ (bG ++ (vv ++ (nn ++ nC)))) (dif2 ++ (ptO ++ (ptJ true ++ (fa true ++ fb true)))) 300 20 8 [.agg (iv 0 4), .agg (iv 4 4), .agg (iv 8 3)] = .ret (.one (.bool (.lit true))) := by kernel_rfl
theorem ptSdlO : treeB Try.prog (aG ++ (bG ++ (vv ++ (nn ++ nC)))) (sam ++ (dl ++ (ptO ++ (ptJ true ++ (fa true ++ fb true))))) 300 20 8 [.agg (iv 0 4), .agg (iv 4 4), .agg (iv 8 3)] = .ret (.one (.bool (.lit true))) := by kernel_rfl
theorem ptSdeO : treeB Try.prog (aG ++ (bG ++ (vv ++ (nn ++ nC)))) (sam ++ (de ++ (ptO ++ (ptJ true ++ (fa true ++ fb true))))) 300 20 8 [.agg (iv 0 4), .agg (iv 4 4), .agg (iv 8 3)] = .ret (.one (.bool (.lit true))) := by kernel_rfl
theorem ptSdgO : treeB Try.prog (aG ++ (bG ++ (vv ++ (nn ++ nC)))) (sam ++ (dg ++ (ptO ++ (ptJ true ++ (fa true ++ fb true))))) 300 20 8 [.agg (iv 0 4), .agg (iv 4 4), .agg (iv 8 3)] = .ret (.one (.bool (.lit true))) := by kernel_rfl
theorem ptSdlI : treeB Try.prog (aG ++ (bG ++ (vv ++ (nn ++ nC)))) (uI ++ (sam ++ (dl ++ (ptI ++ (ptJ true ++ (fa true ++ fb true)))))) 300 20 8 [.agg (iv 0 4), .agg (iv 4 4), .agg (iv 8 3)] = .ret (.one (.bool (.lit true))) := by kernel_rfl
theorem ptSdeI : treeB Try.prog (aG ++ (bG ++ (vv ++ (nn ++ nC)))) (uI ++ (sam ++ (de ++ (ptI ++ (ptJ true ++ (fa true ++ fb true)))))) 300 20 8 [.agg (iv 0 4), .agg (iv 4 4), .agg (iv 8 3)] = .ret (.one (.bool (.lit true))) := by kernel_rfl
theorem ptSdgI : treeB Try.prog (aG ++ (bG ++ (vv ++ (nn ++ nC)))) (sam ++ (dg ++ (ptI ++ (ptJ true ++ (fa true ++ fb true))))) 300 20 8 [.agg (iv 0 4), .agg (iv 4 4), .agg (iv 8 3)] = .ret (.one (.bool (.lit true))) := by kernel_rfl
theorem points_walk (a b c d a2 b2 c2 d2 x y z : Int) (W : World) : Calls Try.prog 8 #[.agg #[.int .i64 a, .int .i64 b, .int .i64 c, .int .i64 d], .agg #[.int .i64 a2, .int .i64 b2, .int .i64 c2, .int .i64 d2], .agg #[.int .i64 x, .int .i64 y, .int .i64 z]] W fun e w' => e = .returned (.bool true) ∧ Below W.heap.size W w' := by
  by_cases h1 : chkH a b c d = 0
  case neg => exact tree_law (ρ := envX [a, b, c, d, a2, b2, c2, d2, x, y, z] [chkH a b c d, chkH a2 b2 c2 d2]) (ConOk.app (aX_ok h1 [a2, b2, c2, d2, x, y, z] [chkH a2 b2 c2 d2]) (nC_ok [x, y, z] [])) (pc := fa false) (.cons' h1 .nil) wide ptX (by kernel_rfl) rfl Good.yes W
  have hN := nr_chk h1
  have hI := val_iff h1 x y z
  have nnC : ∀ W, Calls Try.prog 23 #[.agg #[.int .i64 (a.tdiv (gH a b c)), .int .i64 (b.tdiv (gH a b c)), .int .i64 (c.tdiv (gH a b c)), .int .i64 (d / gH a b c)]] W fun e w' => e = .returned (.tuple #[.agg #[.int .i64 (a.tdiv (gH a b c)), .int .i64 (b.tdiv (gH a b c)), .int .i64 (c.tdiv (gH a b c)), .int .i64 (d / gH a b c)], .int .i64 0]) ∧ Below W.heap.size W w' := by
    intro W
    have := pNormal_ok hN W
    rw [nr_nr h1] at this
    exact this
  by_cases h2 : chkH a2 b2 c2 d2 = 0
  case neg =>
    have hV : ConOk Try.prog (envX [a, b, c, d, a2, b2, c2, d2, x, y, z] [chkH a b c d, chkH a2 b2 c2 d2, a.tdiv (gH a b c), b.tdiv (gH a b c), c.tdiv (gH a b c), d / gH a b c, 0, 0, 0, 0, vV a b c d x y z, vE x y z, vV (a.tdiv (gH a b c)) (b.tdiv (gH a b c)) (c.tdiv (gH a b c)) (d / gH a b c) x y z, 0, chkH a2 b2 c2 d2]) vv := .cons (fun _ W => pValue_ok h1 x y z W) (.cons (fun _ W => pValue_ok hN x y z W) (.cons (fun _ W => pValue_bad h2 x y z W) .nil))
    have hNN : ConOk Try.prog (envX [a, b, c, d, a2, b2, c2, d2, x, y, z] [chkH a b c d, chkH a2 b2 c2 d2, a.tdiv (gH a b c), b.tdiv (gH a b c), c.tdiv (gH a b c), d / gH a b c, 0, 0, 0, 0, vV a b c d x y z, vE x y z, vV (a.tdiv (gH a b c)) (b.tdiv (gH a b c)) (c.tdiv (gH a b c)) (d / gH a b c) x y z, 0, chkH a2 b2 c2 d2]) nn := .cons (fun _ W => nnC W) .nil
    have hC : ConOk Try.prog (envX [a, b, c, d, a2, b2, c2, d2, x, y, z] [chkH a b c d, chkH a2 b2 c2 d2, a.tdiv (gH a b c), b.tdiv (gH a b c), c.tdiv (gH a b c), d / gH a b c, 0, 0, 0, 0, vV a b c d x y z, vE x y z, vV (a.tdiv (gH a b c)) (b.tdiv (gH a b c)) (c.tdiv (gH a b c)) (d / gH a b c) x y z, 0, chkH a2 b2 c2 d2]) (aG ++ (bX ++ (vv ++ (nn ++ nC)))) := ConOk.app (aG_ok h1 _ _ [a2, b2, c2, d2, x, y, z] [0, 0, 0, 0, vV a b c d x y z, vE x y z, vV (a.tdiv (gH a b c)) (b.tdiv (gH a b c)) (c.tdiv (gH a b c)) (d / gH a b c) x y z, 0, chkH a2 b2 c2 d2]) (ConOk.app (bX_ok h2 _ [x, y, z] _) (ConOk.app hV (ConOk.app hNN (nC_ok [x, y, z] _))))
    have hF : PC.Ok (envX [a, b, c, d, a2, b2, c2, d2, x, y, z] [chkH a b c d, chkH a2 b2 c2 d2, a.tdiv (gH a b c), b.tdiv (gH a b c), c.tdiv (gH a b c), d / gH a b c, 0, 0, 0, 0, vV a b c d x y z, vE x y z, vV (a.tdiv (gH a b c)) (b.tdiv (gH a b c)) (c.tdiv (gH a b c)) (d / gH a b c) x y z, 0, chkH a2 b2 c2 d2]) (fa true ++ fb false) := PC.Ok.app (.cons' h1 .nil) (.cons' h2 .nil)
    by_cases hp : vE x y z = 0
    case neg =>
      have e : PC.Ok (envX [a, b, c, d, a2, b2, c2, d2, x, y, z] [chkH a b c d, chkH a2 b2 c2 d2, a.tdiv (gH a b c), b.tdiv (gH a b c), c.tdiv (gH a b c), d / gH a b c, 0, 0, 0, 0, vV a b c d x y z, vE x y z, vV (a.tdiv (gH a b c)) (b.tdiv (gH a b c)) (c.tdiv (gH a b c)) (d / gH a b c) x y z, 0, chkH a2 b2 c2 d2]) ptN := .cons' hp .nil
      exact tree_law hC (e.app hF) wide ptXN (by kernel_rfl) rfl Good.yes W
    by_cases hv : vV a b c d x y z ≤ 0
    · have e : PC.Ok (envX [a, b, c, d, a2, b2, c2, d2, x, y, z] [chkH a b c d, chkH a2 b2 c2 d2, a.tdiv (gH a b c), b.tdiv (gH a b c), c.tdiv (gH a b c), d / gH a b c, 0, 0, 0, 0, vV a b c d x y z, vE x y z, vV (a.tdiv (gH a b c)) (b.tdiv (gH a b c)) (c.tdiv (gH a b c)) (d / gH a b c) x y z, 0, chkH a2 b2 c2 d2]) ptI := .cons' hp (.cons' hv (.cons' (hI.1 hv) (.cons' hv .nil)))
      exact tree_law hC (e.app hF) wide ptXI (by kernel_rfl) rfl Good.yes W
    · have hv' : ¬ vV (a.tdiv (gH a b c)) (b.tdiv (gH a b c)) (c.tdiv (gH a b c)) (d / gH a b c) x y z ≤ 0 := fun h => hv (hI.2 h)
      have e : PC.Ok (envX [a, b, c, d, a2, b2, c2, d2, x, y, z] [chkH a b c d, chkH a2 b2 c2 d2, a.tdiv (gH a b c), b.tdiv (gH a b c), c.tdiv (gH a b c), d / gH a b c, 0, 0, 0, 0, vV a b c d x y z, vE x y z, vV (a.tdiv (gH a b c)) (b.tdiv (gH a b c)) (c.tdiv (gH a b c)) (d / gH a b c) x y z, 0, chkH a2 b2 c2 d2]) ptO := .cons' hp (.cons' (Int.not_le.1 hv) (.cons' (Int.not_le.1 hv') (.cons' (Int.not_le.1 hv) .nil)))
      exact tree_law hC (e.app hF) wide ptXO (by kernel_rfl) rfl Good.yes W
  have hI2 := val_iff h2 x y z
  have hV : ConOk Try.prog (envX [a, b, c, d, a2, b2, c2, d2, x, y, z] [chkH a b c d, chkH a2 b2 c2 d2, a.tdiv (gH a b c), b.tdiv (gH a b c), c.tdiv (gH a b c), d / gH a b c, a2.tdiv (gH a2 b2 c2), b2.tdiv (gH a2 b2 c2), c2.tdiv (gH a2 b2 c2), d2 / gH a2 b2 c2, vV a b c d x y z, vE x y z, vV (a.tdiv (gH a b c)) (b.tdiv (gH a b c)) (c.tdiv (gH a b c)) (d / gH a b c) x y z, vV a2 b2 c2 d2 x y z, vE x y z]) vv := .cons (fun _ W => pValue_ok h1 x y z W) (.cons (fun _ W => pValue_ok hN x y z W) (.cons (fun _ W => pValue_ok h2 x y z W) .nil))
  have hNN : ConOk Try.prog (envX [a, b, c, d, a2, b2, c2, d2, x, y, z] [chkH a b c d, chkH a2 b2 c2 d2, a.tdiv (gH a b c), b.tdiv (gH a b c), c.tdiv (gH a b c), d / gH a b c, a2.tdiv (gH a2 b2 c2), b2.tdiv (gH a2 b2 c2), c2.tdiv (gH a2 b2 c2), d2 / gH a2 b2 c2, vV a b c d x y z, vE x y z, vV (a.tdiv (gH a b c)) (b.tdiv (gH a b c)) (c.tdiv (gH a b c)) (d / gH a b c) x y z, vV a2 b2 c2 d2 x y z, vE x y z]) nn := .cons (fun _ W => nnC W) .nil
  have hC : ConOk Try.prog (envX [a, b, c, d, a2, b2, c2, d2, x, y, z] [chkH a b c d, chkH a2 b2 c2 d2, a.tdiv (gH a b c), b.tdiv (gH a b c), c.tdiv (gH a b c), d / gH a b c, a2.tdiv (gH a2 b2 c2), b2.tdiv (gH a2 b2 c2), c2.tdiv (gH a2 b2 c2), d2 / gH a2 b2 c2, vV a b c d x y z, vE x y z, vV (a.tdiv (gH a b c)) (b.tdiv (gH a b c)) (c.tdiv (gH a b c)) (d / gH a b c) x y z, vV a2 b2 c2 d2 x y z, vE x y z]) (aG ++ (bG ++ (vv ++ (nn ++ nC)))) := ConOk.app (aG_ok h1 _ _ [a2, b2, c2, d2, x, y, z] [a2.tdiv (gH a2 b2 c2), b2.tdiv (gH a2 b2 c2), c2.tdiv (gH a2 b2 c2), d2 / gH a2 b2 c2, vV a b c d x y z, vE x y z, vV (a.tdiv (gH a b c)) (b.tdiv (gH a b c)) (c.tdiv (gH a b c)) (d / gH a b c) x y z, vV a2 b2 c2 d2 x y z, vE x y z]) (ConOk.app (bG_ok h2 _ _ _ _ _ _ [x, y, z] [vV a b c d x y z, vE x y z, vV (a.tdiv (gH a b c)) (b.tdiv (gH a b c)) (c.tdiv (gH a b c)) (d / gH a b c) x y z, vV a2 b2 c2 d2 x y z, vE x y z]) (ConOk.app hV (ConOk.app hNN (nC_ok [x, y, z] _))))
  have hF : PC.Ok (envX [a, b, c, d, a2, b2, c2, d2, x, y, z] [chkH a b c d, chkH a2 b2 c2 d2, a.tdiv (gH a b c), b.tdiv (gH a b c), c.tdiv (gH a b c), d / gH a b c, a2.tdiv (gH a2 b2 c2), b2.tdiv (gH a2 b2 c2), c2.tdiv (gH a2 b2 c2), d2 / gH a2 b2 c2, vV a b c d x y z, vE x y z, vV (a.tdiv (gH a b c)) (b.tdiv (gH a b c)) (c.tdiv (gH a b c)) (d / gH a b c) x y z, vV a2 b2 c2 d2 x y z, vE x y z]) (fa true ++ fb true) := PC.Ok.app (.cons' h1 .nil) (.cons' h2 .nil)
  clear hV hNN nnC
  by_cases hp : vE x y z = 0
  case neg =>
    have e : PC.Ok (envX [a, b, c, d, a2, b2, c2, d2, x, y, z] [chkH a b c d, chkH a2 b2 c2 d2, a.tdiv (gH a b c), b.tdiv (gH a b c), c.tdiv (gH a b c), d / gH a b c, a2.tdiv (gH a2 b2 c2), b2.tdiv (gH a2 b2 c2), c2.tdiv (gH a2 b2 c2), d2 / gH a2 b2 c2, vV a b c d x y z, vE x y z, vV (a.tdiv (gH a b c)) (b.tdiv (gH a b c)) (c.tdiv (gH a b c)) (d / gH a b c) x y z, vV a2 b2 c2 d2 x y z, vE x y z]) ptN := .cons' hp .nil
    have e2 : PC.Ok (envX [a, b, c, d, a2, b2, c2, d2, x, y, z] [chkH a b c d, chkH a2 b2 c2 d2, a.tdiv (gH a b c), b.tdiv (gH a b c), c.tdiv (gH a b c), d / gH a b c, a2.tdiv (gH a2 b2 c2), b2.tdiv (gH a2 b2 c2), c2.tdiv (gH a2 b2 c2), d2 / gH a2 b2 c2, vV a b c d x y z, vE x y z, vV (a.tdiv (gH a b c)) (b.tdiv (gH a b c)) (c.tdiv (gH a b c)) (d / gH a b c) x y z, vV a2 b2 c2 d2 x y z, vE x y z]) (ptJ false) := .cons' hp .nil
    exact tree_law hC (e.app (e2.app hF)) wide ptGN (by kernel_rfl) rfl Good.yes W
  have hR : PC.Ok (envX [a, b, c, d, a2, b2, c2, d2, x, y, z] [chkH a b c d, chkH a2 b2 c2 d2, a.tdiv (gH a b c), b.tdiv (gH a b c), c.tdiv (gH a b c), d / gH a b c, a2.tdiv (gH a2 b2 c2), b2.tdiv (gH a2 b2 c2), c2.tdiv (gH a2 b2 c2), d2 / gH a2 b2 c2, vV a b c d x y z, vE x y z, vV (a.tdiv (gH a b c)) (b.tdiv (gH a b c)) (c.tdiv (gH a b c)) (d / gH a b c) x y z, vV a2 b2 c2 d2 x y z, vE x y z]) (ptJ true ++ (fa true ++ fb true)) := PC.Ok.app (.cons' hp .nil) hF
  have hio : (vV a b c d x y z ≤ 0 ∧ PC.Ok (envX [a, b, c, d, a2, b2, c2, d2, x, y, z] [chkH a b c d, chkH a2 b2 c2 d2, a.tdiv (gH a b c), b.tdiv (gH a b c), c.tdiv (gH a b c), d / gH a b c, a2.tdiv (gH a2 b2 c2), b2.tdiv (gH a2 b2 c2), c2.tdiv (gH a2 b2 c2), d2 / gH a2 b2 c2, vV a b c d x y z, vE x y z, vV (a.tdiv (gH a b c)) (b.tdiv (gH a b c)) (c.tdiv (gH a b c)) (d / gH a b c) x y z, vV a2 b2 c2 d2 x y z, vE x y z]) ptI) ∨ PC.Ok (envX [a, b, c, d, a2, b2, c2, d2, x, y, z] [chkH a b c d, chkH a2 b2 c2 d2, a.tdiv (gH a b c), b.tdiv (gH a b c), c.tdiv (gH a b c), d / gH a b c, a2.tdiv (gH a2 b2 c2), b2.tdiv (gH a2 b2 c2), c2.tdiv (gH a2 b2 c2), d2 / gH a2 b2 c2, vV a b c d x y z, vE x y z, vV (a.tdiv (gH a b c)) (b.tdiv (gH a b c)) (c.tdiv (gH a b c)) (d / gH a b c) x y z, vV a2 b2 c2 d2 x y z, vE x y z]) ptO := by
    by_cases hv : vV a b c d x y z ≤ 0
    · exact .inl ⟨hv, .cons' hp (.cons' hv (.cons' (hI.1 hv) (.cons' hv .nil)))⟩
    · have hv' : ¬ vV (a.tdiv (gH a b c)) (b.tdiv (gH a b c)) (c.tdiv (gH a b c)) (d / gH a b c) x y z ≤ 0 := fun h => hv (hI.2 h)
      exact .inr (.cons' hp (.cons' (Int.not_le.1 hv) (.cons' (Int.not_le.1 hv') (.cons' (Int.not_le.1 hv) .nil))))
  by_cases q0 : a.tdiv (gH a b c) = a2.tdiv (gH a2 b2 c2)
  case neg =>
    have e : PC.Ok (envX [a, b, c, d, a2, b2, c2, d2, x, y, z] [chkH a b c d, chkH a2 b2 c2 d2, a.tdiv (gH a b c), b.tdiv (gH a b c), c.tdiv (gH a b c), d / gH a b c, a2.tdiv (gH a2 b2 c2), b2.tdiv (gH a2 b2 c2), c2.tdiv (gH a2 b2 c2), d2 / gH a2 b2 c2, vV a b c d x y z, vE x y z, vV (a.tdiv (gH a b c)) (b.tdiv (gH a b c)) (c.tdiv (gH a b c)) (d / gH a b c) x y z, vV a2 b2 c2 d2 x y z, vE x y z]) dif0 := .cons' q0 .nil
    rcases hio with ⟨_, h⟩ | h
    · exact tree_law hC (e.app (h.app hR)) wide ptD0I (by kernel_rfl) rfl Good.yes W
    · exact tree_law hC (e.app (h.app hR)) wide ptD0O (by kernel_rfl) rfl Good.yes W
  by_cases q1 : b.tdiv (gH a b c) = b2.tdiv (gH a2 b2 c2)
  case neg =>
    have e : PC.Ok (envX [a, b, c, d, a2, b2, c2, d2, x, y, z] [chkH a b c d, chkH a2 b2 c2 d2, a.tdiv (gH a b c), b.tdiv (gH a b c), c.tdiv (gH a b c), d / gH a b c, a2.tdiv (gH a2 b2 c2), b2.tdiv (gH a2 b2 c2), c2.tdiv (gH a2 b2 c2), d2 / gH a2 b2 c2, vV a b c d x y z, vE x y z, vV (a.tdiv (gH a b c)) (b.tdiv (gH a b c)) (c.tdiv (gH a b c)) (d / gH a b c) x y z, vV a2 b2 c2 d2 x y z, vE x y z]) dif1 := .cons' q0 (.cons' q1 .nil)
    rcases hio with ⟨_, h⟩ | h
    · exact tree_law hC (e.app (h.app hR)) wide ptD1I (by kernel_rfl) rfl Good.yes W
    · exact tree_law hC (e.app (h.app hR)) wide ptD1O (by kernel_rfl) rfl Good.yes W
  by_cases q2 : c.tdiv (gH a b c) = c2.tdiv (gH a2 b2 c2)
  case neg =>
    have e : PC.Ok (envX [a, b, c, d, a2, b2, c2, d2, x, y, z] [chkH a b c d, chkH a2 b2 c2 d2, a.tdiv (gH a b c), b.tdiv (gH a b c), c.tdiv (gH a b c), d / gH a b c, a2.tdiv (gH a2 b2 c2), b2.tdiv (gH a2 b2 c2), c2.tdiv (gH a2 b2 c2), d2 / gH a2 b2 c2, vV a b c d x y z, vE x y z, vV (a.tdiv (gH a b c)) (b.tdiv (gH a b c)) (c.tdiv (gH a b c)) (d / gH a b c) x y z, vV a2 b2 c2 d2 x y z, vE x y z]) dif2 := .cons' q0 (.cons' q1 (.cons' q2 .nil))
    rcases hio with ⟨_, h⟩ | h
    · exact tree_law hC (e.app (h.app hR)) wide ptD2I (by kernel_rfl) rfl Good.yes W
    · exact tree_law hC (e.app (h.app hR)) wide ptD2O (by kernel_rfl) rfl Good.yes W
  have hS : PC.Ok (envX [a, b, c, d, a2, b2, c2, d2, x, y, z] [chkH a b c d, chkH a2 b2 c2 d2, a.tdiv (gH a b c), b.tdiv (gH a b c), c.tdiv (gH a b c), d / gH a b c, a2.tdiv (gH a2 b2 c2), b2.tdiv (gH a2 b2 c2), c2.tdiv (gH a2 b2 c2), d2 / gH a2 b2 c2, vV a b c d x y z, vE x y z, vV (a.tdiv (gH a b c)) (b.tdiv (gH a b c)) (c.tdiv (gH a b c)) (d / gH a b c) x y z, vV a2 b2 c2 d2 x y z, vE x y z]) sam := .cons' q0 (.cons' q1 (.cons' q2 (.cons' q0.symm (.cons' q1.symm (.cons' q2.symm .nil)))))
  have hu : vV a b c d x y z ≤ 0 → d / gH a b c ≤ d2 / gH a2 b2 c2 → vV a2 b2 c2 d2 x y z ≤ 0 := by
    intro hv hd
    have := hI.1 hv
    refine hI2.2 ?_
    unfold vV at this ⊢
    rw [if_pos hp] at this ⊢
    rw [← q0, ← q1, ← q2]
    omega
  rcases Int.lt_trichotomy (d / gH a b c) (d2 / gH a2 b2 c2) with hd | hd | hd
  · have e : PC.Ok (envX [a, b, c, d, a2, b2, c2, d2, x, y, z] [chkH a b c d, chkH a2 b2 c2 d2, a.tdiv (gH a b c), b.tdiv (gH a b c), c.tdiv (gH a b c), d / gH a b c, a2.tdiv (gH a2 b2 c2), b2.tdiv (gH a2 b2 c2), c2.tdiv (gH a2 b2 c2), d2 / gH a2 b2 c2, vV a b c d x y z, vE x y z, vV (a.tdiv (gH a b c)) (b.tdiv (gH a b c)) (c.tdiv (gH a b c)) (d / gH a b c) x y z, vV a2 b2 c2 d2 x y z, vE x y z]) dl := .cons' (Int.ne_of_lt hd) (.cons' (Int.le_of_lt hd) (.cons' hd .nil))
    rcases hio with ⟨hv, h⟩ | h
    · have e2 : PC.Ok (envX [a, b, c, d, a2, b2, c2, d2, x, y, z] [chkH a b c d, chkH a2 b2 c2 d2, a.tdiv (gH a b c), b.tdiv (gH a b c), c.tdiv (gH a b c), d / gH a b c, a2.tdiv (gH a2 b2 c2), b2.tdiv (gH a2 b2 c2), c2.tdiv (gH a2 b2 c2), d2 / gH a2 b2 c2, vV a b c d x y z, vE x y z, vV (a.tdiv (gH a b c)) (b.tdiv (gH a b c)) (c.tdiv (gH a b c)) (d / gH a b c) x y z, vV a2 b2 c2 d2 x y z, vE x y z]) uI := .cons' (hu hv (Int.le_of_lt hd)) .nil
      exact tree_law hC (e2.app (hS.app (e.app (h.app hR)))) wide ptSdlI (by kernel_rfl) rfl Good.yes W
    · exact tree_law hC (hS.app (e.app (h.app hR))) wide ptSdlO (by kernel_rfl) rfl Good.yes W
  · have e : PC.Ok (envX [a, b, c, d, a2, b2, c2, d2, x, y, z] [chkH a b c d, chkH a2 b2 c2 d2, a.tdiv (gH a b c), b.tdiv (gH a b c), c.tdiv (gH a b c), d / gH a b c, a2.tdiv (gH a2 b2 c2), b2.tdiv (gH a2 b2 c2), c2.tdiv (gH a2 b2 c2), d2 / gH a2 b2 c2, vV a b c d x y z, vE x y z, vV (a.tdiv (gH a b c)) (b.tdiv (gH a b c)) (c.tdiv (gH a b c)) (d / gH a b c) x y z, vV a2 b2 c2 d2 x y z, vE x y z]) de := .cons' hd (.cons' (Int.le_of_eq hd) (.cons' (Int.le_of_eq hd.symm) .nil))
    rcases hio with ⟨hv, h⟩ | h
    · have e2 : PC.Ok (envX [a, b, c, d, a2, b2, c2, d2, x, y, z] [chkH a b c d, chkH a2 b2 c2 d2, a.tdiv (gH a b c), b.tdiv (gH a b c), c.tdiv (gH a b c), d / gH a b c, a2.tdiv (gH a2 b2 c2), b2.tdiv (gH a2 b2 c2), c2.tdiv (gH a2 b2 c2), d2 / gH a2 b2 c2, vV a b c d x y z, vE x y z, vV (a.tdiv (gH a b c)) (b.tdiv (gH a b c)) (c.tdiv (gH a b c)) (d / gH a b c) x y z, vV a2 b2 c2 d2 x y z, vE x y z]) uI := .cons' (hu hv (Int.le_of_eq hd)) .nil
      exact tree_law hC (e2.app (hS.app (e.app (h.app hR)))) wide ptSdeI (by kernel_rfl) rfl Good.yes W
    · exact tree_law hC (hS.app (e.app (h.app hR))) wide ptSdeO (by kernel_rfl) rfl Good.yes W
  · have e : PC.Ok (envX [a, b, c, d, a2, b2, c2, d2, x, y, z] [chkH a b c d, chkH a2 b2 c2 d2, a.tdiv (gH a b c), b.tdiv (gH a b c), c.tdiv (gH a b c), d / gH a b c, a2.tdiv (gH a2 b2 c2), b2.tdiv (gH a2 b2 c2), c2.tdiv (gH a2 b2 c2), d2 / gH a2 b2 c2, vV a b c d x y z, vE x y z, vV (a.tdiv (gH a b c)) (b.tdiv (gH a b c)) (c.tdiv (gH a b c)) (d / gH a b c) x y z, vV a2 b2 c2 d2 x y z, vE x y z]) dg := .cons' (Int.ne_of_gt hd) (.cons' hd (.cons' (Int.le_of_lt hd) .nil))
    rcases hio with ⟨hv, h⟩ | h
    · exact tree_law hC (hS.app (e.app (h.app hR))) wide ptSdgI (by kernel_rfl) rfl Good.yes W
    · exact tree_law hC (hS.app (e.app (h.app hR))) wide ptSdgO (by kernel_rfl) rfl Good.yes W
end Go.Proofs.Ytdcblfibkoiflaa
