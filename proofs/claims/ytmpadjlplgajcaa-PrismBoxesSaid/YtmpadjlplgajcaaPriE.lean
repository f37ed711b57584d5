/- Over the base and a box: Overlaps, Covers, Separator, Hull of valid ones. -/
import Derived.Test.YtmpadjlplgajcaaPriD
namespace Go.Proofs.Ytmpadjlplgajcaa
open Go.RowKit
section
variable {S : S0} {y : Lay} {W : World}
structure Bx (S : S0) : Prop where
  u : InM S.u
  v : InM S.v
  w : InM S.w
  p : InM S.p
  q : InM S.q
  r : InM S.r
  up : S.u < S.p
  vq : S.v < S.q
  wr : S.w < S.r
  lh : S.lo < S.hi
def VBx : PC := rg 2 (-1000000) 1000000 ++ rg 3 (-1000000) 1000000 ++ rg 4 (-1000000) 1000000 ++ rg 5 (-1000000) 1000000 ++ rg 6 (-1000000) 1000000 ++ rg 7 (-1000000) 1000000 ++ [(.lt (.at 2) (.at 5), true), (.lt (.at 3) (.at 6), true), (.lt (.at 4) (.at 7), true), (.lt (.at 0) (.at 1), true)]
theorem vbx_ok (b : Bx S) {be k0 k1 k2 k3 k4 k5 k6 k7 k8 k9 : Int} : VBx.Ok (EB S y be k0 k1 k2 k3 k4 k5 k6 k7 k8 k9) :=
  ((((((rg_ok b.u.1 b.u.2).app (rg_ok b.v.1 b.v.2)).app (rg_ok b.w.1 b.w.2)).app (rg_ok b.p.1 b.p.2)).app (rg_ok b.q.1 b.q.2)).app (rg_ok b.r.1 b.r.2)).app (.cons' b.up (.cons' b.vq (.cons' b.wr (.cons' b.lh .nil))))
def BV (S : S0) : Value := .agg #[.int .i64 S.u, .int .i64 S.v, .int .i64 S.w, .int .i64 S.p, .int .i64 S.q, .int .i64 S.r]
def bC : PC := rg 0 (-1000000) 1000000 ++ rg 1 (-1000000) 1000000 ++ rg 2 (-1000000) 1000000 ++ rg 3 (-1000000) 1000000 ++ rg 4 (-1000000) 1000000 ++ rg 5 (-1000000) 1000000 ++ [(.lt (.at 0) (.at 3), true), (.lt (.at 1) (.at 4), true), (.lt (.at 2) (.at 5), true)]
theorem bc_tree : tree Try.prog [] bC 300 20 49 [.agg (iv 0 6)] = .ret (.one (i8 (.lit 0))) := by kernel_rfl
theorem bc_ok (b : Bx S) (W : World) : Calls Try.prog 49 #[BV S] W fun e w' => e = .returned (.int .i64 0) ∧ Below W.heap.size W w' := by
  have hp : PC.Ok (envX [S.u, S.v, S.w, S.p, S.q, S.r] []) bC := ((((((rg_ok b.u.1 b.u.2).app (rg_ok b.v.1 b.v.2)).app (rg_ok b.w.1 b.w.2)).app (rg_ok b.p.1 b.p.2)).app (rg_ok b.q.1 b.q.2)).app (rg_ok b.r.1 b.r.2)).app (.cons' b.up (.cons' b.vq (.cons' b.wr .nil)))
  exact tree_fun (ρ := envX [S.u, S.v, S.w, S.p, S.q, S.r] []) .nil hp wide bc_tree (by kernel_rfl) rfl (u := .int .i64 0) (All.ret rfl) W
def corner (m : Nat) : SV := .agg (match m with | 0 => [i8 (.at 2), i8 (.at 3)] | 1 => [i8 (.at 5), i8 (.at 3)] | 2 => [i8 (.at 5), i8 (.at 6)] | _ => [i8 (.at 2), i8 (.at 6)])
def s1 (k : IE) (m : Nat) : IE := .ap 30 k (.lit m)
def s2 (r : Nat) : IE := .ap 31 (.at (15 + r)) (.lit r)
def conOk : Con := [(52, [prismV], .one (.bool (.lit true))), (53, [.one (.ssl L0)], .one (.bool (.lit true))), (49, [.agg (iv 2 6)], .one (i8 (.lit 0))), (37, [.one (.ssl L0)], .tup [⟨true, [i8 (.at 20), i8 (.at 21)]⟩, ⟨true, [i8 (.at 22), i8 (.at 23)]⟩, ⟨false, [i8 (.lit 0)]⟩])]
def cS (i m : Nat) : FuncId × List SV × SV := (67, [ptS (.at i), ptS (nxt i), corner m], .one (i8 (s1 (.at i) m)))
def cR (r r' : Nat) : FuncId × List SV × SV := (67, [corner r, corner r', ptS (.at (15 + r))], .one (i8 (s2 r)))
def conA : Con := [cS 14 0, cS 14 1, cS 14 2, cS 14 3, cS 19 0, cS 19 1, cS 19 2, cS 19 3, cR 0 1, cR 1 2, cR 2 3, cR 3 0] ++ conOk
/-- A valid prism and a valid box. -/
structure Val (S : S0) (y : Lay) (W : World) : Prop where
  L : Lies S y W
  h : Rng S
  c : Cv S
  b : Bx S
theorem conA_ok (V : Val S y W) {be k0 k1 k2 k3 k4 k5 k6 k7 k8 k9 : Int} : ConOkW Try.prog (EB S y be k0 k1 k2 k3 k4 k5 k6 k7 k8 k9) W conA := by
  have h := V.h
  have b := V.b
  exact .cons (fun _ w _ => orient_at (a := S.X k4) (b := S.Y k4) (c := S.X (S.nx k4)) (d := S.Y (S.nx k4)) (e := S.u) (f := S.v) (h.X _) (h.Y _) (h.X _) (h.Y _) b.u b.v w) (.cons (fun _ w _ => orient_at (a := S.X k4) (b := S.Y k4) (c := S.X (S.nx k4)) (d := S.Y (S.nx k4)) (e := S.p) (f := S.v) (h.X _) (h.Y _) (h.X _) (h.Y _) b.p b.v w) (.cons (fun _ w _ => orient_at (a := S.X k4) (b := S.Y k4) (c := S.X (S.nx k4)) (d := S.Y (S.nx k4)) (e := S.p) (f := S.q) (h.X _) (h.Y _) (h.X _) (h.Y _) b.p b.q w) (.cons (fun _ w _ => orient_at (a := S.X k4) (b := S.Y k4) (c := S.X (S.nx k4)) (d := S.Y (S.nx k4)) (e := S.u) (f := S.q) (h.X _) (h.Y _) (h.X _) (h.Y _) b.u b.q w) (.cons (fun _ w _ => orient_at (a := S.X k9) (b := S.Y k9) (c := S.X (S.nx k9)) (d := S.Y (S.nx k9)) (e := S.u) (f := S.v) (h.X _) (h.Y _) (h.X _) (h.Y _) b.u b.v w) (.cons (fun _ w _ => orient_at (a := S.X k9) (b := S.Y k9) (c := S.X (S.nx k9)) (d := S.Y (S.nx k9)) (e := S.p) (f := S.v) (h.X _) (h.Y _) (h.X _) (h.Y _) b.p b.v w) (.cons (fun _ w _ => orient_at (a := S.X k9) (b := S.Y k9) (c := S.X (S.nx k9)) (d := S.Y (S.nx k9)) (e := S.p) (f := S.q) (h.X _) (h.Y _) (h.X _) (h.Y _) b.p b.q w) (.cons (fun _ w _ => orient_at (a := S.X k9) (b := S.Y k9) (c := S.X (S.nx k9)) (d := S.Y (S.nx k9)) (e := S.u) (f := S.q) (h.X _) (h.Y _) (h.X _) (h.Y _) b.u b.q w) (.cons (fun _ w _ => orient_at (a := S.u) (b := S.v) (c := S.p) (d := S.v) (e := S.X k5) (f := S.Y k5) b.u b.v b.p b.v (h.X _) (h.Y _) w) (.cons (fun _ w _ => orient_at (a := S.p) (b := S.v) (c := S.p) (d := S.q) (e := S.X k6) (f := S.Y k6) b.p b.v b.p b.q (h.X _) (h.Y _) w) (.cons (fun _ w _ => orient_at (a := S.p) (b := S.q) (c := S.u) (d := S.q) (e := S.X k7) (f := S.Y k7) b.p b.q b.u b.q (h.X _) (h.Y _) w) (.cons (fun _ w _ => orient_at (a := S.u) (b := S.q) (c := S.u) (d := S.v) (e := S.X k8) (f := S.Y k8) b.u b.q b.u b.v (h.X _) (h.Y _) w) (.cons (fun _ w hb => in_yes (V.L.mono hb) h) (.cons (fun _ w hb => cv_yes (V.L.mono hb) h V.c) (.cons (fun _ w hb => bc_ok b w) (.cons (fun _ w hb => bounds_of (V.L.mono hb) h V.c.1) (.nil))))))))))))))))
theorem baseA (V : Val S y W) {be k0 k1 k2 k3 k4 k5 k6 k7 k8 k9 : Int} : Bs Try.prog W conA [L0] (EB S y be k0 k1 k2 k3 k4 k5 k6 k7 k8 k9) := ⟨conA_ok V, ebl V.L⟩
def pcA : PC := pcn ++ VBx
theorem pcA_ok (V : Val S y W) {be k0 k1 k2 k3 k4 k5 k6 k7 k8 k9 : Int} : pcA.Ok (EB S y be k0 k1 k2 k3 k4 k5 k6 k7 k8 k9) := (eb_pcn V.h).app (vbx_ok V.b)
/-! The edges' loop: is there a corner of the rectangle on the left? -/
def fl (m : Nat) (b : Bool) : PC := [(.lt (.lit 0) (s1 (.at 14) m), b)]
def none4 : PC := fl 0 false ++ fl 1 false ++ fl 2 false ++ fl 3 false
def rd4 : List PC := [kr 14 ++ fl 0 true, kr 14 ++ (fl 0 false ++ fl 1 true), kr 14 ++ (fl 0 false ++ fl 1 false ++ fl 2 true), kr 14 ++ (fl 0 false ++ fl 1 false ++ fl 2 false ++ fl 3 true)]
def AE (i N p nx : Nat) (cobs : List Nat) (rs : List PC) (ex : PC) : LAnn := ⟨401310, i, [(7, .one (i8 (.at i))), (6, .one (i8 (.at 8))), (5, .one (.ssl L0)), (0, .one (.nm N)), (1, .one (.ptr p 0))], [], cobs, ex, rs, nx, [], [], []⟩
def A6 (ex : PC) : LAnn := AE 14 17 14 18 [9, 12, 13, 14, 15, 16, 17] rd4 ex
def A8 (ex : PC) : LAnn := AE 14 13 10 14 [7, 8, 9, 10, 11, 12, 13] rd4 ex
def gl (m : Nat) (b : Bool) : PC := [(.lt (s1 (.at 19) m) (.lit 0), b)]
def A9 (ex : PC) : LAnn := AE 19 11 8 12 [1, 2, 3, 8, 9, 10, 11] [kr 19 ++ (gl 0 false ++ gl 1 false ++ gl 2 false ++ gl 3 false)] ex
def A7 (r N : Nat) (ex : PC) : LAnn := ⟨909666, 15 + r, [(8, .one (i8 (.at (15 + r)))), (7, .one (i8 (.at 8))), (6, .one (.ssl L0)), (4, .one (i8 (.lit 0))), (0, .one (.ssl L0)), (1, .one (.nm N))], [], [N - 1, N], ex, [kr (15 + r) ++ [(.lt (.lit 0) (s2 r), false)]], N + 1, [], [], []⟩
def fnd (r : Nat) : PC := kr (15 + r) ++ [(.lt (.lit 0) (s2 r), true)]
def zOk : PC := [(.lt (.at 0) (.at 7), true), (.lt (.at 4) (.at 1), true)]
/-- A corner of the rectangle lies on the left of edge k. -/
def Lf (S : S0) (k : Int) : Prop := 0 < S.sd k 0 ∨ 0 < S.sd k 1 ∨ 0 < S.sd k 2 ∨ 0 < S.sd k 3
theorem notgt {t : Int} (h : ¬ 0 < t) : sgn t ≤ 0 := Int.not_lt.1 fun q => h (sgn_gt.1 q)
theorem notlt {t : Int} (h : ¬ t < 0) : 0 ≤ sgn t := Int.not_lt.1 fun q => h (sgn_lt.1 q)
theorem rd4_ok (V : Val S y W) {be k0 k1 k2 k3 j k5 k6 k7 k8 k9 : Int} (h0 : 0 ≤ j) (h1 : j < S.n) (hl : Lf S j) : ∃ pcr ∈ rd4, pcr.Ok (EB S y be k0 k1 k2 k3 j k5 k6 k7 k8 k9) := by
  have hk : (kr 14).Ok (EB S y be k0 k1 k2 k3 j k5 k6 k7 k8 k9) := kr_ok V.h h0 h1
  have T : ∀ m : Nat, 0 < S.sd j m → (fl m true).Ok (EB S y be k0 k1 k2 k3 j k5 k6 k7 k8 k9) := fun m q => .cons' (sgn_gt.2 q) .nil
  have N : ∀ m : Nat, ¬ 0 < S.sd j m → (fl m false).Ok (EB S y be k0 k1 k2 k3 j k5 k6 k7 k8 k9) := fun m q => .cons' (notgt q) .nil
  by_cases c0 : 0 < S.sd j 0
  · exact ⟨_, by simp only [rd4]; exact List.mem_cons_self .., hk.app (T 0 c0)⟩
  by_cases c1 : 0 < S.sd j 1
  · exact ⟨_, by simp only [rd4]; exact List.mem_cons_of_mem _ (List.mem_cons_self ..), hk.app ((N 0 c0).app (T 1 c1))⟩
  by_cases c2 : 0 < S.sd j 2
  · exact ⟨_, by simp only [rd4]; exact List.mem_cons_of_mem _ (List.mem_cons_of_mem _ (List.mem_cons_self ..)), hk.app (((N 0 c0).app (N 1 c1)).app (T 2 c2))⟩
  have c3 : 0 < S.sd j 3 := by rcases hl with q | q | q | q; · exact absurd q c0
                               · exact absurd q c1
                               · exact absurd q c2
                               · exact q
  exact ⟨_, by simp only [rd4]; exact List.mem_cons_of_mem _ (List.mem_cons_of_mem _ (List.mem_cons_of_mem _ (List.mem_cons_self ..))), hk.app ((((N 0 c0).app (N 1 c1)).app (N 2 c2)).app (T 3 c3))⟩
theorem none4_ok {be k0 k1 k2 k3 j k5 k6 k7 k8 k9 : Int} (hl : ¬ Lf S j) : none4.Ok (EB S y be k0 k1 k2 k3 j k5 k6 k7 k8 k9) := by
  have N : ∀ m : Nat, ¬ 0 < S.sd j m → (fl m false).Ok (EB S y be k0 k1 k2 k3 j k5 k6 k7 k8 k9) := fun m q => .cons' (notgt q) .nil
  exact (((N 0 fun q => hl (.inl q)).app (N 1 fun q => hl (.inr (.inl q)))).app (N 2 fun q => hl (.inr (.inr (.inl q))))).app (N 3 fun q => hl (.inr (.inr (.inr q))))
theorem famE (V : Val S y W) {N p nx : Nat} {cobs : List Nat} {tl : List LAnn} {ex : PC} {be k4 k5 k6 k7 k8 k9 : Int} (htl : ∀ j, Fam (Bs Try.prog W conA [L0]) tl (EB S y be 0 0 0 0 j k5 k6 k7 k8 k9)) (hk : 0 ≤ k4) (hkn : k4 ≤ S.n) (hl : ∀ j, 0 ≤ j → j < k4 → Lf S j) (hex : ex.Ok (EB S y be 0 0 0 0 k4 k5 k6 k7 k8 k9)) :
    Fam (Bs Try.prog W conA [L0]) (AE 14 N p nx cobs rd4 ex :: tl) (EB S y be 0 0 0 0 k4 k5 k6 k7 k8 k9) := by
  refine ⟨htl _, hk, ⟨hex, .nil⟩, fun j h0 h1 => ?_⟩
  have e : (EB S y be 0 0 0 0 k4 k5 k6 k7 k8 k9).upd (AE 14 N p nx cobs rd4 ex).i j = EB S y be 0 0 0 0 j k5 k6 k7 k8 k9 := EB_14
  rw [e]
  have h1 : j < k4 := h1
  exact ⟨⟨rd4_ok V h0 (by omega) (hl j h0 h1), .nil⟩, htl j⟩
theorem fam7_0 (V : Val S y W) {N : Nat} {tl : List LAnn} {ex : PC} {be k4 k5 k6 k7 k8 k9 : Int} (htl : ∀ j, Fam (Bs Try.prog W conA [L0]) tl (EB S y be 0 0 0 0 k4 j k6 k7 k8 k9)) (hk : 0 ≤ k5) (hkn : k5 ≤ S.n) (hl : ∀ j, 0 ≤ j → j < k5 → ¬ 0 < S.se j 0) (hex : ex.Ok (EB S y be 0 0 0 0 k4 k5 k6 k7 k8 k9)) :
    Fam (Bs Try.prog W conA [L0]) (A7 0 N ex :: tl) (EB S y be 0 0 0 0 k4 k5 k6 k7 k8 k9) := by
  refine ⟨htl _, hk, ⟨hex, .nil⟩, fun j h0 h1 => ?_⟩
  have e : (EB S y be 0 0 0 0 k4 k5 k6 k7 k8 k9).upd (A7 0 N ex).i j = EB S y be 0 0 0 0 k4 j k6 k7 k8 k9 := EB_15
  rw [e]
  have h1 : j < k5 := h1
  have hq : PC.Ok (EB S y be 0 0 0 0 k4 j k6 k7 k8 k9) [(.lt (.lit 0) (s2 0), false)] := .cons' (notgt (hl j h0 h1)) .nil
  have hr : PC.Ok (EB S y be 0 0 0 0 k4 j k6 k7 k8 k9) (kr 15) := kr_ok V.h h0 (by show j < S.n; omega)
  exact ⟨⟨⟨_, List.mem_singleton.2 rfl, hr.app hq⟩, .nil⟩, htl j⟩
theorem fnd0_ok (V : Val S y W) {be k4 k5 k6 k7 k8 k9 : Int} (h0 : 0 ≤ k5) (h1 : k5 < S.n) (h2 : 0 < S.se k5 0) : (fnd 0).Ok (EB S y be 0 0 0 0 k4 k5 k6 k7 k8 k9) := by
  have hr : PC.Ok (EB S y be 0 0 0 0 k4 k5 k6 k7 k8 k9) (kr 15) := kr_ok V.h h0 h1
  have hq : PC.Ok (EB S y be 0 0 0 0 k4 k5 k6 k7 k8 k9) [(.lt (.lit 0) (s2 0), true)] := .cons' (sgn_gt.2 h2) .nil
  exact hr.app hq
theorem fam7_1 (V : Val S y W) {N : Nat} {tl : List LAnn} {ex : PC} {be k4 k5 k6 k7 k8 k9 : Int} (htl : ∀ j, Fam (Bs Try.prog W conA [L0]) tl (EB S y be 0 0 0 0 k4 k5 j k7 k8 k9)) (hk : 0 ≤ k6) (hkn : k6 ≤ S.n) (hl : ∀ j, 0 ≤ j → j < k6 → ¬ 0 < S.se j 1) (hex : ex.Ok (EB S y be 0 0 0 0 k4 k5 k6 k7 k8 k9)) :
    Fam (Bs Try.prog W conA [L0]) (A7 1 N ex :: tl) (EB S y be 0 0 0 0 k4 k5 k6 k7 k8 k9) := by
  refine ⟨htl _, hk, ⟨hex, .nil⟩, fun j h0 h1 => ?_⟩
  have e : (EB S y be 0 0 0 0 k4 k5 k6 k7 k8 k9).upd (A7 1 N ex).i j = EB S y be 0 0 0 0 k4 k5 j k7 k8 k9 := EB_16
  rw [e]
  have h1 : j < k6 := h1
  have hq : PC.Ok (EB S y be 0 0 0 0 k4 k5 j k7 k8 k9) [(.lt (.lit 0) (s2 1), false)] := .cons' (notgt (hl j h0 h1)) .nil
  have hr : PC.Ok (EB S y be 0 0 0 0 k4 k5 j k7 k8 k9) (kr 16) := kr_ok V.h h0 (by show j < S.n; omega)
  exact ⟨⟨⟨_, List.mem_singleton.2 rfl, hr.app hq⟩, .nil⟩, htl j⟩
theorem fnd1_ok (V : Val S y W) {be k4 k5 k6 k7 k8 k9 : Int} (h0 : 0 ≤ k6) (h1 : k6 < S.n) (h2 : 0 < S.se k6 1) : (fnd 1).Ok (EB S y be 0 0 0 0 k4 k5 k6 k7 k8 k9) := by
  have hr : PC.Ok (EB S y be 0 0 0 0 k4 k5 k6 k7 k8 k9) (kr 16) := kr_ok V.h h0 h1
  have hq : PC.Ok (EB S y be 0 0 0 0 k4 k5 k6 k7 k8 k9) [(.lt (.lit 0) (s2 1), true)] := .cons' (sgn_gt.2 h2) .nil
  exact hr.app hq
theorem fam7_2 (V : Val S y W) {N : Nat} {tl : List LAnn} {ex : PC} {be k4 k5 k6 k7 k8 k9 : Int} (htl : ∀ j, Fam (Bs Try.prog W conA [L0]) tl (EB S y be 0 0 0 0 k4 k5 k6 j k8 k9)) (hk : 0 ≤ k7) (hkn : k7 ≤ S.n) (hl : ∀ j, 0 ≤ j → j < k7 → ¬ 0 < S.se j 2) (hex : ex.Ok (EB S y be 0 0 0 0 k4 k5 k6 k7 k8 k9)) :
    Fam (Bs Try.prog W conA [L0]) (A7 2 N ex :: tl) (EB S y be 0 0 0 0 k4 k5 k6 k7 k8 k9) := by
  refine ⟨htl _, hk, ⟨hex, .nil⟩, fun j h0 h1 => ?_⟩
  have e : (EB S y be 0 0 0 0 k4 k5 k6 k7 k8 k9).upd (A7 2 N ex).i j = EB S y be 0 0 0 0 k4 k5 k6 j k8 k9 := EB_17
  rw [e]
  have h1 : j < k7 := h1
  have hq : PC.Ok (EB S y be 0 0 0 0 k4 k5 k6 j k8 k9) [(.lt (.lit 0) (s2 2), false)] := .cons' (notgt (hl j h0 h1)) .nil
  have hr : PC.Ok (EB S y be 0 0 0 0 k4 k5 k6 j k8 k9) (kr 17) := kr_ok V.h h0 (by show j < S.n; omega)
  exact ⟨⟨⟨_, List.mem_singleton.2 rfl, hr.app hq⟩, .nil⟩, htl j⟩
theorem fnd2_ok (V : Val S y W) {be k4 k5 k6 k7 k8 k9 : Int} (h0 : 0 ≤ k7) (h1 : k7 < S.n) (h2 : 0 < S.se k7 2) : (fnd 2).Ok (EB S y be 0 0 0 0 k4 k5 k6 k7 k8 k9) := by
  have hr : PC.Ok (EB S y be 0 0 0 0 k4 k5 k6 k7 k8 k9) (kr 17) := kr_ok V.h h0 h1
  have hq : PC.Ok (EB S y be 0 0 0 0 k4 k5 k6 k7 k8 k9) [(.lt (.lit 0) (s2 2), true)] := .cons' (sgn_gt.2 h2) .nil
  exact hr.app hq
theorem fam7_3 (V : Val S y W) {N : Nat} {tl : List LAnn} {ex : PC} {be k4 k5 k6 k7 k8 k9 : Int} (htl : ∀ j, Fam (Bs Try.prog W conA [L0]) tl (EB S y be 0 0 0 0 k4 k5 k6 k7 j k9)) (hk : 0 ≤ k8) (hkn : k8 ≤ S.n) (hl : ∀ j, 0 ≤ j → j < k8 → ¬ 0 < S.se j 3) (hex : ex.Ok (EB S y be 0 0 0 0 k4 k5 k6 k7 k8 k9)) :
    Fam (Bs Try.prog W conA [L0]) (A7 3 N ex :: tl) (EB S y be 0 0 0 0 k4 k5 k6 k7 k8 k9) := by
  refine ⟨htl _, hk, ⟨hex, .nil⟩, fun j h0 h1 => ?_⟩
  have e : (EB S y be 0 0 0 0 k4 k5 k6 k7 k8 k9).upd (A7 3 N ex).i j = EB S y be 0 0 0 0 k4 k5 k6 k7 j k9 := EB_18
  rw [e]
  have h1 : j < k8 := h1
  have hq : PC.Ok (EB S y be 0 0 0 0 k4 k5 k6 k7 j k9) [(.lt (.lit 0) (s2 3), false)] := .cons' (notgt (hl j h0 h1)) .nil
  have hr : PC.Ok (EB S y be 0 0 0 0 k4 k5 k6 k7 j k9) (kr 18) := kr_ok V.h h0 (by show j < S.n; omega)
  exact ⟨⟨⟨_, List.mem_singleton.2 rfl, hr.app hq⟩, .nil⟩, htl j⟩
theorem fnd3_ok (V : Val S y W) {be k4 k5 k6 k7 k8 k9 : Int} (h0 : 0 ≤ k8) (h1 : k8 < S.n) (h2 : 0 < S.se k8 3) : (fnd 3).Ok (EB S y be 0 0 0 0 k4 k5 k6 k7 k8 k9) := by
  have hr : PC.Ok (EB S y be 0 0 0 0 k4 k5 k6 k7 k8 k9) (kr 18) := kr_ok V.h h0 h1
  have hq : PC.Ok (EB S y be 0 0 0 0 k4 k5 k6 k7 k8 k9) [(.lt (.lit 0) (s2 3), true)] := .cons' (sgn_gt.2 h2) .nil
  exact hr.app hq
end
end Go.Proofs.Ytmpadjlplgajcaa
