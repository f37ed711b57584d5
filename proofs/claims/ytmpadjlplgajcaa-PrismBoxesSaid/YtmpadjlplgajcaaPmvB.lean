/- PrismMoves. -/
import Derived.Test.YtmpadjlplgajcaaPmvA
namespace Go.Proofs.Ytmpadjlplgajcaa
open Go.RowKit
section
variable {S : S0} {y : Lay} {W : World} {dx dy dz be k : Int} {z : Int × Int × Int × Int}
/-! The box. -/
theorem va_tree : tree Try.prog [] [] 300 20 27 [.agg (iv 0 6)] = (.br (.le (.lit (-1000000)) (.at 0)) (.br (.le (.at 0) (.lit 1000000)) (.br (.le (.lit (-1000000)) (.at 1)) (.br (.le (.at 1) (.lit 1000000)) (.br (.le (.lit (-1000000)) (.at 2)) (.br (.le (.at 2) (.lit 1000000)) (.br (.le (.lit (-1000000)) (.at 3)) (.br (.le (.at 3) (.lit 1000000)) (.br (.le (.lit (-1000000)) (.at 4)) (.br (.le (.at 4) (.lit 1000000)) (.br (.le (.lit (-1000000)) (.at 5)) (.br (.le (.at 5) (.lit 1000000)) (.br (.lt (.at 0) (.at 3)) (.br (.lt (.at 1) (.at 4)) (.ret (.one (.bool (.lt (.at 2) (.at 5))))) FL) FL) FL) FL) FL) FL) FL) FL) FL) FL) FL) FL) FL) FL) := by kernel_rfl
theorem bcode_of (a : InM S.u) (b : InM S.v) (c : InM S.w) (d : InM S.p) (e : InM S.q) (f : InM S.r) (g : S.u < S.p) (h : S.v < S.q) (i : S.w < S.r) : bcode S = 0 := by
  unfold InM at a b c d e f
  have a0 := mnI_spec S.u S.p
  have a1 := mxI_spec S.u S.p
  have b0 := mnI_spec S.v S.q
  have b1 := mxI_spec S.v S.q
  have c0 := mnI_spec S.w S.r
  have c1 := mxI_spec S.w S.r
  unfold bcode
  rw [if_neg (by omega), if_neg (by omega), if_neg (by omega), if_neg (by omega), if_neg (by omega), if_neg (by omega), if_neg (by omega), if_neg (by omega), if_neg (by omega)]
theorem valid_no (h : bcode S ≠ 0) (W : World) : Calls Try.prog 27 #[BV S] W fun e w' => e = .returned (.bool false) ∧ Below W.heap.size W w' := by
  have fin : FL.All (envX [S.u, S.v, S.w, S.p, S.q, S.r] []) (· = .bool false) := All.ret rfl
  refine tree_fun (ρ := envX [S.u, S.v, S.w, S.p, S.q, S.r] []) .nil .nil wide va_tree (by kernel_rfl) rfl (u := .bool false) ?_ W
  refine All.br' (fun h0 => ?_) (fun _ => fin)
  refine All.br' (fun h1 => ?_) (fun _ => fin)
  refine All.br' (fun h2 => ?_) (fun _ => fin)
  refine All.br' (fun h3 => ?_) (fun _ => fin)
  refine All.br' (fun h4 => ?_) (fun _ => fin)
  refine All.br' (fun h5 => ?_) (fun _ => fin)
  refine All.br' (fun h6 => ?_) (fun _ => fin)
  refine All.br' (fun h7 => ?_) (fun _ => fin)
  refine All.br' (fun h8 => ?_) (fun _ => fin)
  refine All.br' (fun h9 => ?_) (fun _ => fin)
  refine All.br' (fun h10 => ?_) (fun _ => fin)
  refine All.br' (fun h11 => ?_) (fun _ => fin)
  refine All.br' (fun h12 => ?_) (fun _ => fin)
  refine All.br' (fun h13 => ?_) (fun _ => fin)
  have m0 : InM S.u := ⟨h0, h1⟩
  have m1 : InM S.v := ⟨h2, h3⟩
  have m2 : InM S.w := ⟨h4, h5⟩
  have m3 : InM S.p := ⟨h6, h7⟩
  have m4 : InM S.q := ⟨h8, h9⟩
  have m5 : InM S.r := ⟨h10, h11⟩
  have l0 : S.u < S.p := h12
  have l1 : S.v < S.q := h13
  refine All.ret ?_
  show Value.bool (decide (S.w < S.r)) = _
  have : ¬ S.w < S.r := fun l2 => h (bcode_of m0 m1 m2 m3 m4 m5 l0 l1 l2)
  simp [this]
structure Bx6 (S : S0) : Prop where
  u : InM S.u
  v : InM S.v
  w : InM S.w
  p : InM S.p
  q : InM S.q
  r : InM S.r
  up : S.u < S.p
  vq : S.v < S.q
  wr : S.w < S.r
theorem bx6_of (h : bcode S = 0) : Bx6 S := by
  have b : Bx { S with lo := 0, hi := 1 } := bcode_zero (S := { S with lo := 0, hi := 1 }) h (by show (0 : Int) < 1; decide)
  exact ⟨b.u, b.v, b.w, b.p, b.q, b.r, b.up, b.vq, b.wr⟩
def fV : PC := rg 2 (-1000000) 1000000 ++ rg 3 (-1000000) 1000000 ++ rg 4 (-1000000) 1000000 ++ rg 5 (-1000000) 1000000 ++ rg 6 (-1000000) 1000000 ++ rg 7 (-1000000) 1000000 ++ [(.lt (.at 2) (.at 5), true), (.lt (.at 3) (.at 6), true), (.lt (.at 4) (.at 7), true)]
def fI : PC := [(.eq (.at 9) (.lit 0), false)]
theorem fV_ok (b : Bx6 S) : fV.Ok (EV S y dx dy dz z be k) := ((((((rg_ok b.u.1 b.u.2).app (rg_ok b.v.1 b.v.2)).app (rg_ok b.w.1 b.w.2)).app (rg_ok b.p.1 b.p.2)).app (rg_ok b.q.1 b.q.2)).app (rg_ok b.r.1 b.r.2)).app (.cons' b.up (.cons' b.vq (.cons' b.wr .nil)))
def cV (r : Con) : Con := r
def cI (r : Con) : Con := (49, [.agg (iv 2 6)], .one (i8 (.at 9))) :: (27, [.agg (iv 2 6)], .one (.bool (.lit false))) :: r
/-! The law. -/
def ARm : List SV := [prismV, .agg (iv 2 6), byV, .one (i8 (.at 28)), .one (i8 (.at 29))]
def ckM (c : Int) (r : Con) : Con := (11, [prismV], .one (i8 (.lit c))) :: r
def mO (r : Con) : Con := (29, [prismV, byV], MV) :: (31, [prismV, byV], MV) :: r
def mB (r : Con) : Con := (29, [prismV, byV], BADS) :: (31, [prismV, byV], BADS) :: r
def okC : Con := ckM 0 (cvT true)
def lhS (b : Bool) : PC := [(.le (.at 29) (.at 28), b)]
def zS (b : Bool) : PC := [(.le (.mn (.at 29) (.at 1)) (.mx (.at 28) (.at 0)), b)]
def g_l : PC := pn ++ lt01 true ++ lhS true
def g_z : PC := pn ++ lt01 true ++ lhS false ++ zS true
def g_s : PC := pn ++ lt01 true ++ lhS false ++ zS false
def g_lo : PC := pn ++ lt01 false
def g_cv : PC := pn ++ lt01 true
def ASm (i p q a b nx : Nat) : LAnn := ⟨824278, i, [(5, .one (i8 (.at i))), (4, .one (.bool (.lit false))), (3, .one (.ptr q 0)), (2, .one (.ptr p 0))], [], [a, b, p, q], kOut i, [pn ++ inX (.at i)], nx, [], [], []⟩
theorem pm_80 : treeBL Try.prog con1 [L0] [] g80 300 30 6 ARm = YT := by kernel_rfl
theorem pm_V65 : treeBL Try.prog (cV con1) [L0] [] (p65 ++ fV) 300 30 6 ARm = YT := by kernel_rfl
theorem pm_V02 : treeBL Try.prog (cV con1) [L0] [] (p02 ++ fV) 300 30 6 ARm = YT := by kernel_rfl
theorem pm_Vnr : treeBL Try.prog (cV (ckM 6 (inT false))) [L0] [] (pn ++ fV) 300 30 6 ARm = YT := by kernel_rfl
theorem pm_Vlo : treeBL Try.prog (cV (ckM 1 (inT true))) [L0] [] (g_lo ++ fV) 300 30 6 ARm = YT := by kernel_rfl
theorem pm_Vcv : treeBL Try.prog (cV (ckM 1 (cvT false))) [L0] [] (g_cv ++ fV) 300 30 6 ARm = YT := by kernel_rfl
theorem pm_VOl : treeBL Try.prog (cV (mO okC)) [L0] [ASm 11 43 44 31 38 45] (g_l ++ fV) 300 30 6 ARm = YT := by kernel_rfl
theorem pm_VOz : treeBL Try.prog (cV (mO okC)) [L0] [ASm 11 43 44 31 38 45] (g_z ++ fV) 300 30 6 ARm = YT := by kernel_rfl
theorem pm_VOs : treeBL Try.prog (cV (mO okC)) [L0] [ASm 11 45 46 31 40 47, ASm 12 47 48 38 38 49] (g_s ++ fV) 300 30 6 ARm = YT := by kernel_rfl
theorem pm_VBl : treeBL Try.prog (cV (mB okC)) [L0] [] (g_l ++ fV) 300 30 6 ARm = YT := by kernel_rfl
theorem pm_VBz : treeBL Try.prog (cV (mB okC)) [L0] [] (g_z ++ fV) 300 30 6 ARm = YT := by kernel_rfl
theorem pm_VBs : treeBL Try.prog (cV (mB okC)) [L0] [ASm 11 45 46 37 37 47] (g_s ++ fV) 300 30 6 ARm = YT := by kernel_rfl
theorem pm_I65 : treeBL Try.prog (cI con1) [L0] [] (p65 ++ fI) 300 30 6 ARm = YT := by kernel_rfl
theorem pm_I02 : treeBL Try.prog (cI con1) [L0] [] (p02 ++ fI) 300 30 6 ARm = YT := by kernel_rfl
theorem pm_Inr : treeBL Try.prog (cI (ckM 6 (inT false))) [L0] [] (pn ++ fI) 300 30 6 ARm = YT := by kernel_rfl
theorem pm_Ilo : treeBL Try.prog (cI (ckM 1 (inT true))) [L0] [] (g_lo ++ fI) 300 30 6 ARm = YT := by kernel_rfl
theorem pm_Icv : treeBL Try.prog (cI (ckM 1 (cvT false))) [L0] [] (g_cv ++ fI) 300 30 6 ARm = YT := by kernel_rfl
theorem pm_IOl : treeBL Try.prog (cI (mO okC)) [L0] [ASm 11 20 21 8 15 22] (g_l ++ fI) 300 30 6 ARm = YT := by kernel_rfl
theorem pm_IOz : treeBL Try.prog (cI (mO okC)) [L0] [ASm 11 20 21 8 15 22] (g_z ++ fI) 300 30 6 ARm = YT := by kernel_rfl
theorem pm_IOs : treeBL Try.prog (cI (mO okC)) [L0] [ASm 11 22 23 8 17 24, ASm 12 24 25 15 15 26] (g_s ++ fI) 300 30 6 ARm = YT := by kernel_rfl
theorem pm_IBl : treeBL Try.prog (cI (mB okC)) [L0] [] (g_l ++ fI) 300 30 6 ARm = YT := by kernel_rfl
theorem pm_IBz : treeBL Try.prog (cI (mB okC)) [L0] [] (g_z ++ fI) 300 30 6 ARm = YT := by kernel_rfl
theorem pm_IBs : treeBL Try.prog (cI (mB okC)) [L0] [ASm 11 22 23 14 14 24] (g_s ++ fI) 300 30 6 ARm = YT := by kernel_rfl
end
end Go.Proofs.Ytmpadjlplgajcaa
