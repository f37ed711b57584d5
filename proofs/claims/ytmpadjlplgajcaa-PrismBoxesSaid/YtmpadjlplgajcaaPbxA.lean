/- What the reference says of a prism and a box. -/
import Derived.Test.YtmpadjlplgajcaaPckC
namespace Go.Proofs.Ytmpadjlplgajcaa
open Go.RowKit
section
variable {S : S0} {y : Lay} {W : World} {be cb k14 k15 k16 k17 k18 : Int}
def EW (S : S0) (y : Lay) (be cb k14 k15 k16 k17 k18 : Int) : EnvS := EP [S.lo, S.hi, S.u, S.v, S.w, S.p, S.q, S.r, S.n, be, cb, 0, 0, 0, k14, k15, k16, k17, k18] S.F y
theorem EW_14 {j : Int} : (EW S y be cb k14 k15 k16 k17 k18).upd 14 j = EW S y be cb j k15 k16 k17 k18 := EP_upd (by simp)
theorem EW_15 {j : Int} : (EW S y be cb k14 k15 k16 k17 k18).upd 15 j = EW S y be cb k14 j k16 k17 k18 := EP_upd (by simp)
theorem EW_16 {j : Int} : (EW S y be cb k14 k15 k16 k17 k18).upd 16 j = EW S y be cb k14 k15 j k17 k18 := EP_upd (by simp)
theorem EW_17 {j : Int} : (EW S y be cb k14 k15 k16 k17 k18).upd 17 j = EW S y be cb k14 k15 k16 j k18 := EP_upd (by simp)
theorem EW_18 {j : Int} : (EW S y be cb k14 k15 k16 k17 k18).upd 18 j = EW S y be cb k14 k15 k16 k17 j := EP_upd (by simp)
theorem ew_lk : Lk S (EW S y be cb k14 k15 k16 k17 k18) := ⟨fun _ => rfl, fun _ => rfl, rfl, rfl, rfl⟩
theorem ewl (h : Lies S y W) : ∀ L ∈ [L0], LOk (EW S y be cb k14 k15 k16 k17 k18) W L := lols h rfl
def cr6 (ax ay bx by_ cx cy : IE) : IE := .sub (.mul (.sub bx ax) (.sub cy ay)) (.mul (.sub by_ ay) (.sub cx ax))
def qx (c : Nat) : IE := if c == 0 || c == 3 then .at 2 else .at 5
def qy (c : Nat) : IE := if c == 0 || c == 1 then .at 3 else .at 6
def sdE (a : IE) (c : Nat) : IE := cr6 (px a) (py a) (px (nE a)) (py (nE a)) (qx c) (qy c)
def seE (j : IE) (c : Nat) : IE := cr6 (qx c) (qy c) (qx ((c + 1) % 4)) (qy ((c + 1) % 4)) (px j) (py j)
def pS : PC := pcn ++ VBx
def lf (c : Nat) (b : Bool) : PC := [(.lt (.lit 0) (sdE (.at 14) c), b)]
def rt (c : Nat) (b : Bool) : PC := [(.lt (sdE (.at 14) c) (.lit 0), b)]
def no4 : PC := lf 0 false ++ lf 1 false ++ lf 2 false ++ lf 3 false
def rB0 : PC := pS ++ rowF (.at 14)
def rows4 : List PC := [rB0 ++ lf 0 true, rB0 ++ (lf 0 false ++ lf 1 true), rB0 ++ (lf 0 false ++ lf 1 false ++ lf 2 true), rB0 ++ (lf 0 false ++ lf 1 false ++ lf 2 false ++ lf 3 true)]
def rowsC : List PC := [rB0 ++ (rt 0 false ++ rt 1 false ++ rt 2 false ++ rt 3 false)]
def SLq (o : Nat) : SV := .one (.slc o 0 4 4 true)
def AS (ex : PC) : LAnn := ⟨965948, 14, [(6, .one (i8 (.at 14))), (5, SLq 4), (4, .one (i8 (.lit 0))), (3, .one (.ptr 1 0)), (2, .one (.ptr 0 0))], [], [0, 1, 4], ex, rows4, 5, [], [], []⟩
def ASp (ex : PC) : LAnn := ⟨514358, 14, [(5, .one (i8 (.at 14))), (4, BF), (0, .one (.ssl L0)), (1, SLq 7)], [], [7], ex, rows4, 10, [], [], []⟩
def ABy (o e nx i : Nat) (ex : PC) : LAnn := ⟨209329, i, [(7, .one (i8 (.at i))), (6, BF), (0, SLq o), (1, .one (i8 (.lit e))), (2, .one (.ssl L0))], [], [o], ex, [pS ++ inX (.at i) ++ inR (.at i) ++ [(.lt (.lit 0) (seE (.at i) e), false)]], nx, [], [], []⟩
def AVc (ex : PC) : LAnn := ⟨619485, 14, [(6, .one (i8 (.at 14))), (5, SLq 4), (4, BF), (3, .one (.ptr 1 0)), (2, .one (.ptr 0 0))], [], [0, 1, 4], ex, rowsC, 5, [], [], []⟩
def fe (i e : Nat) : PC := inX (.at i) ++ inR (.at i) ++ [(.lt (.lit 0) (seE (.at i) e), true)]
def exN : PC := rowF (.at 14) ++ no4
theorem pS_ok (V : Val S y W) : pS.Ok (EW S y be cb k14 k15 k16 k17 k18) := by
  have q : PC.Ok (EW S y be cb k14 k15 k16 k17 k18) VBx := ((((((rg_ok V.b.u.1 V.b.u.2).app (rg_ok V.b.v.1 V.b.v.2)).app (rg_ok V.b.w.1 V.b.w.2)).app (rg_ok V.b.p.1 V.b.p.2)).app (rg_ok V.b.q.1 V.b.q.2)).app (rg_ok V.b.r.1 V.b.r.2)).app (.cons' V.b.up (.cons' V.b.vq (.cons' V.b.wr (.cons' V.b.lh .nil))))
  exact (ew_lk.pcn V.h).app q
theorem rB0_ok (V : Val S y W) (h0 : 0 ≤ k14) (h1 : k14 < S.n) : rB0.Ok (EW S y be cb k14 k15 k16 k17 k18) := (pS_ok V).app (ew_lk.rowF V.h (e := .at 14) h0 h1)
theorem lfT0 (q : 0 < S.sd k14 0) : (lf 0 true).Ok (EW S y be cb k14 k15 k16 k17 k18) := .cons' q .nil
theorem lfF0 (q : ¬ 0 < S.sd k14 0) : (lf 0 false).Ok (EW S y be cb k14 k15 k16 k17 k18) := .cons' (Int.not_lt.1 q) .nil
theorem rtT0 (q : S.sd k14 0 < 0) : (rt 0 true).Ok (EW S y be cb k14 k15 k16 k17 k18) := .cons' q .nil
theorem rtF0 (q : ¬ S.sd k14 0 < 0) : (rt 0 false).Ok (EW S y be cb k14 k15 k16 k17 k18) := .cons' (Int.not_lt.1 q) .nil
theorem lfT1 (q : 0 < S.sd k14 1) : (lf 1 true).Ok (EW S y be cb k14 k15 k16 k17 k18) := .cons' q .nil
theorem lfF1 (q : ¬ 0 < S.sd k14 1) : (lf 1 false).Ok (EW S y be cb k14 k15 k16 k17 k18) := .cons' (Int.not_lt.1 q) .nil
theorem rtT1 (q : S.sd k14 1 < 0) : (rt 1 true).Ok (EW S y be cb k14 k15 k16 k17 k18) := .cons' q .nil
theorem rtF1 (q : ¬ S.sd k14 1 < 0) : (rt 1 false).Ok (EW S y be cb k14 k15 k16 k17 k18) := .cons' (Int.not_lt.1 q) .nil
theorem lfT2 (q : 0 < S.sd k14 2) : (lf 2 true).Ok (EW S y be cb k14 k15 k16 k17 k18) := .cons' q .nil
theorem lfF2 (q : ¬ 0 < S.sd k14 2) : (lf 2 false).Ok (EW S y be cb k14 k15 k16 k17 k18) := .cons' (Int.not_lt.1 q) .nil
theorem rtT2 (q : S.sd k14 2 < 0) : (rt 2 true).Ok (EW S y be cb k14 k15 k16 k17 k18) := .cons' q .nil
theorem rtF2 (q : ¬ S.sd k14 2 < 0) : (rt 2 false).Ok (EW S y be cb k14 k15 k16 k17 k18) := .cons' (Int.not_lt.1 q) .nil
theorem lfT3 (q : 0 < S.sd k14 3) : (lf 3 true).Ok (EW S y be cb k14 k15 k16 k17 k18) := .cons' q .nil
theorem lfF3 (q : ¬ 0 < S.sd k14 3) : (lf 3 false).Ok (EW S y be cb k14 k15 k16 k17 k18) := .cons' (Int.not_lt.1 q) .nil
theorem rtT3 (q : S.sd k14 3 < 0) : (rt 3 true).Ok (EW S y be cb k14 k15 k16 k17 k18) := .cons' q .nil
theorem rtF3 (q : ¬ S.sd k14 3 < 0) : (rt 3 false).Ok (EW S y be cb k14 k15 k16 k17 k18) := .cons' (Int.not_lt.1 q) .nil
theorem rows4_ok (V : Val S y W) (h0 : 0 ≤ k14) (h1 : k14 < S.n) (hl : Lf S k14) : ∃ p ∈ rows4, p.Ok (EW S y be cb k14 k15 k16 k17 k18) := by
  have hb : rB0.Ok (EW S y be cb k14 k15 k16 k17 k18) := rB0_ok V h0 h1
  by_cases c0 : 0 < S.sd k14 0
  · exact ⟨_, List.mem_cons_self, hb.app (lfT0 c0)⟩
  by_cases c1 : 0 < S.sd k14 1
  · exact ⟨_, List.mem_cons_of_mem _ List.mem_cons_self, hb.app ((lfF0 c0).app (lfT1 c1))⟩
  by_cases c2 : 0 < S.sd k14 2
  · exact ⟨_, List.mem_cons_of_mem _ (List.mem_cons_of_mem _ List.mem_cons_self), hb.app (((lfF0 c0).app (lfF1 c1)).app (lfT2 c2))⟩
  have c3 : 0 < S.sd k14 3 := by
    rcases hl with q | q | q | q
    · exact absurd q c0
    · exact absurd q c1
    · exact absurd q c2
    · exact q
  exact ⟨_, List.mem_cons_of_mem _ (List.mem_cons_of_mem _ (List.mem_cons_of_mem _ List.mem_cons_self)), hb.app ((((lfF0 c0).app (lfF1 c1)).app (lfF2 c2)).app (lfT3 c3))⟩
theorem exN_ok (V : Val S y W) (h0 : 0 ≤ k14) (h1 : k14 < S.n) (hl : ¬ Lf S k14) : exN.Ok (EW S y be cb k14 k15 k16 k17 k18) := by
  have q : no4.Ok (EW S y be cb k14 k15 k16 k17 k18) := (((lfF0 fun q => hl (.inl q)).app (lfF1 fun q => hl (.inr (.inl q)))).app (lfF2 fun q => hl (.inr (.inr (.inl q))))).app (lfF3 fun q => hl (.inr (.inr (.inr q))))
  exact (ew_lk.rowF V.h (e := .at 14) h0 h1).app q
theorem fe_ok {i e : Nat} (V : Val S y W) {ρ : EnvS} (hk : Lk S ρ) (h0 : 0 ≤ ρ.v i) (h1 : ρ.v i < S.n) (hs : 0 < (seE (.at i) e).den ρ) : (fe i e).Ok ρ := ((hk.inX V.h (e := .at i) h0 h1).app (hk.inR V.h _)).app (.cons' hs .nil)
theorem fam15 {con : Con} {o e nx : Nat} {ex : PC} {tl : List LAnn} (V : Val S y W) (htl : ∀ j, Fam (Bs Try.prog W con [L0]) tl (EW S y be cb k14 j k16 k17 k18)) (k0 : 0 ≤ k15) (kn : k15 ≤ S.n) (hse : ∀ j, (seE (.at 15) e).den (EW S y be cb k14 j k16 k17 k18) = S.se j e) (hr : ∀ j, 0 ≤ j → j < k15 → ¬ 0 < S.se j e) (hex : ex.Ok (EW S y be cb k14 k15 k16 k17 k18)) : Fam (Bs Try.prog W con [L0]) (ABy o e nx 15 ex :: tl) (EW S y be cb k14 k15 k16 k17 k18) := by
  refine ⟨htl _, k0, ⟨hex, .nil⟩, fun j h0 h1 => ?_⟩
  have e1 : (EW S y be cb k14 k15 k16 k17 k18).upd (ABy o e nx 15 ex).i j = EW S y be cb k14 j k16 k17 k18 := EW_15
  rw [e1]
  have h1 : j < k15 := h1
  have q : PC.Ok (EW S y be cb k14 j k16 k17 k18) [(.lt (.lit 0) (seE (.at 15) e), false)] := .cons' (show (seE (.at 15) e).den (EW S y be cb k14 j k16 k17 k18) ≤ 0 by rw [hse]; exact Int.not_lt.1 (hr j h0 h1)) .nil
  exact ⟨⟨⟨_, List.mem_singleton.2 rfl, (((pS_ok V).app (ew_lk.inX V.h (e := .at 15) h0 (show j < S.n by omega))).app (ew_lk.inR V.h _)).app q⟩, .nil⟩, htl j⟩
theorem fam16 {con : Con} {o e nx : Nat} {ex : PC} {tl : List LAnn} (V : Val S y W) (htl : ∀ j, Fam (Bs Try.prog W con [L0]) tl (EW S y be cb k14 k15 j k17 k18)) (k0 : 0 ≤ k16) (kn : k16 ≤ S.n) (hse : ∀ j, (seE (.at 16) e).den (EW S y be cb k14 k15 j k17 k18) = S.se j e) (hr : ∀ j, 0 ≤ j → j < k16 → ¬ 0 < S.se j e) (hex : ex.Ok (EW S y be cb k14 k15 k16 k17 k18)) : Fam (Bs Try.prog W con [L0]) (ABy o e nx 16 ex :: tl) (EW S y be cb k14 k15 k16 k17 k18) := by
  refine ⟨htl _, k0, ⟨hex, .nil⟩, fun j h0 h1 => ?_⟩
  have e1 : (EW S y be cb k14 k15 k16 k17 k18).upd (ABy o e nx 16 ex).i j = EW S y be cb k14 k15 j k17 k18 := EW_16
  rw [e1]
  have h1 : j < k16 := h1
  have q : PC.Ok (EW S y be cb k14 k15 j k17 k18) [(.lt (.lit 0) (seE (.at 16) e), false)] := .cons' (show (seE (.at 16) e).den (EW S y be cb k14 k15 j k17 k18) ≤ 0 by rw [hse]; exact Int.not_lt.1 (hr j h0 h1)) .nil
  exact ⟨⟨⟨_, List.mem_singleton.2 rfl, (((pS_ok V).app (ew_lk.inX V.h (e := .at 16) h0 (show j < S.n by omega))).app (ew_lk.inR V.h _)).app q⟩, .nil⟩, htl j⟩
theorem fam17 {con : Con} {o e nx : Nat} {ex : PC} {tl : List LAnn} (V : Val S y W) (htl : ∀ j, Fam (Bs Try.prog W con [L0]) tl (EW S y be cb k14 k15 k16 j k18)) (k0 : 0 ≤ k17) (kn : k17 ≤ S.n) (hse : ∀ j, (seE (.at 17) e).den (EW S y be cb k14 k15 k16 j k18) = S.se j e) (hr : ∀ j, 0 ≤ j → j < k17 → ¬ 0 < S.se j e) (hex : ex.Ok (EW S y be cb k14 k15 k16 k17 k18)) : Fam (Bs Try.prog W con [L0]) (ABy o e nx 17 ex :: tl) (EW S y be cb k14 k15 k16 k17 k18) := by
  refine ⟨htl _, k0, ⟨hex, .nil⟩, fun j h0 h1 => ?_⟩
  have e1 : (EW S y be cb k14 k15 k16 k17 k18).upd (ABy o e nx 17 ex).i j = EW S y be cb k14 k15 k16 j k18 := EW_17
  rw [e1]
  have h1 : j < k17 := h1
  have q : PC.Ok (EW S y be cb k14 k15 k16 j k18) [(.lt (.lit 0) (seE (.at 17) e), false)] := .cons' (show (seE (.at 17) e).den (EW S y be cb k14 k15 k16 j k18) ≤ 0 by rw [hse]; exact Int.not_lt.1 (hr j h0 h1)) .nil
  exact ⟨⟨⟨_, List.mem_singleton.2 rfl, (((pS_ok V).app (ew_lk.inX V.h (e := .at 17) h0 (show j < S.n by omega))).app (ew_lk.inR V.h _)).app q⟩, .nil⟩, htl j⟩
theorem fam18 {con : Con} {o e nx : Nat} {ex : PC} {tl : List LAnn} (V : Val S y W) (htl : ∀ j, Fam (Bs Try.prog W con [L0]) tl (EW S y be cb k14 k15 k16 k17 j)) (k0 : 0 ≤ k18) (kn : k18 ≤ S.n) (hse : ∀ j, (seE (.at 18) e).den (EW S y be cb k14 k15 k16 k17 j) = S.se j e) (hr : ∀ j, 0 ≤ j → j < k18 → ¬ 0 < S.se j e) (hex : ex.Ok (EW S y be cb k14 k15 k16 k17 k18)) : Fam (Bs Try.prog W con [L0]) (ABy o e nx 18 ex :: tl) (EW S y be cb k14 k15 k16 k17 k18) := by
  refine ⟨htl _, k0, ⟨hex, .nil⟩, fun j h0 h1 => ?_⟩
  have e1 : (EW S y be cb k14 k15 k16 k17 k18).upd (ABy o e nx 18 ex).i j = EW S y be cb k14 k15 k16 k17 j := EW_18
  rw [e1]
  have h1 : j < k18 := h1
  have q : PC.Ok (EW S y be cb k14 k15 k16 k17 j) [(.lt (.lit 0) (seE (.at 18) e), false)] := .cons' (show (seE (.at 18) e).den (EW S y be cb k14 k15 k16 k17 j) ≤ 0 by rw [hse]; exact Int.not_lt.1 (hr j h0 h1)) .nil
  exact ⟨⟨⟨_, List.mem_singleton.2 rfl, (((pS_ok V).app (ew_lk.inX V.h (e := .at 18) h0 (show j < S.n by omega))).app (ew_lk.inR V.h _)).app q⟩, .nil⟩, htl j⟩
theorem fam14 {con : Con} {A : LAnn} {tl : List LAnn} (V : Val S y W) (hi : A.i = 14) (hp : A.pcR = rows4) (ha : A.ax0 = []) (ha' : A.ax = []) (htl : ∀ j, Fam (Bs Try.prog W con [L0]) tl (EW S y be cb j k15 k16 k17 k18)) (k0 : 0 ≤ k14) (kn : k14 ≤ S.n) (hr : ∀ j, 0 ≤ j → j < k14 → Lf S j) (hex : A.pc.Ok (EW S y be cb k14 k15 k16 k17 k18)) : Fam (Bs Try.prog W con [L0]) (A :: tl) (EW S y be cb k14 k15 k16 k17 k18) := by
  refine ⟨htl _, ?_, ⟨hex, by rw [ha]; exact .nil⟩, fun j h0 h1 => ?_⟩
  · rw [hi]; exact k0
  rw [hi] at h1 ⊢
  rw [EW_14, hp, ha']
  have h1 : j < k14 := h1
  exact ⟨⟨rows4_ok V h0 (by omega) (hr j h0 h1), .nil⟩, htl j⟩
/-! Covers. -/
def czR : PC := [(.lt (.at 4) (.at 0), false), (.lt (.at 1) (.at 7), false)]
def cz1' : PC := [(.lt (.at 4) (.at 0), true)]
def cz2' : PC := [(.lt (.at 4) (.at 0), false), (.lt (.at 1) (.at 7), true)]
def rv (n : Nat) : PC := match n with
  | 0 => rt 0 true
  | 1 => rt 0 false ++ rt 1 true
  | 2 => rt 0 false ++ rt 1 false ++ rt 2 true
  | _ => rt 0 false ++ rt 1 false ++ rt 2 false ++ rt 3 true
def rBo' (b : Bool) : T SV := .ret (.one (.bool (.lit b)))
theorem cv_1 : treeL Try.prog [] [L0] [] (pS ++ cz1') 300 20 23 AR = rBo' false := by kernel_rfl
theorem cv_2 : treeL Try.prog [] [L0] [] (pS ++ cz2') 300 20 23 AR = rBo' false := by kernel_rfl
theorem cv_3 : treeL Try.prog [] [L0] [AVc (kOut 14)] (pS ++ czR) 300 20 23 AR = rBo' true := by kernel_rfl
theorem cv_x0 : treeL Try.prog [] [L0] [AVc (rowF (.at 14) ++ rv 0)] (pS ++ czR) 300 20 23 AR = rBo' false := by kernel_rfl
theorem cv_x1 : treeL Try.prog [] [L0] [AVc (rowF (.at 14) ++ rv 1)] (pS ++ czR) 300 20 23 AR = rBo' false := by kernel_rfl
theorem cv_x2 : treeL Try.prog [] [L0] [AVc (rowF (.at 14) ++ rv 2)] (pS ++ czR) 300 20 23 AR = rBo' false := by kernel_rfl
theorem cv_x3 : treeL Try.prog [] [L0] [AVc (rowF (.at 14) ++ rv 3)] (pS ++ czR) 300 20 23 AR = rBo' false := by kernel_rfl
theorem famV {ex : PC} (V : Val S y W) (k0 : 0 ≤ k14) (kn : k14 ≤ S.n) (hr : ∀ j, 0 ≤ j → j < k14 → ¬ Rt S j) (hex : ex.Ok (EW S y be cb k14 k15 k16 k17 k18)) : Fam (Bs Try.prog W [] [L0]) [AVc ex] (EW S y be cb k14 k15 k16 k17 k18) := by
  refine ⟨⟨.nil, ewl V.L⟩, k0, ⟨hex, .nil⟩, fun j h0 h1 => ?_⟩
  have e : (EW S y be cb k14 k15 k16 k17 k18).upd (AVc ex).i j = EW S y be cb j k15 k16 k17 k18 := EW_14
  rw [e]
  have h1 : j < k14 := h1
  have hq := hr j h0 h1
  have q : PC.Ok (EW S y be cb j k15 k16 k17 k18) (rt 0 false ++ rt 1 false ++ rt 2 false ++ rt 3 false) := (((rtF0 fun q => hq (.inl q)).app (rtF1 fun q => hq (.inr (.inl q)))).app (rtF2 fun q => hq (.inr (.inr (.inl q))))).app (rtF3 fun q => hq (.inr (.inr (.inr q))))
  exact ⟨⟨⟨_, List.mem_singleton.2 rfl, (rB0_ok V h0 (by omega)).app q⟩, .nil⟩, ⟨.nil, ewl V.L⟩⟩
theorem coR (V : Val S y W) {c : Bool} (hc : c = true ↔ Cov S) : Calls Try.prog 23 #[PV S y, BV S] W fun e w' => e = .returned (.bool c) ∧ Below W.heap.size W w' := by
  have hF : Fam (Bs Try.prog W [] [L0]) [] (EW S y 0 0 0 0 0 0 0) := ⟨.nil, ewl V.L⟩
  have no : ¬ Cov S → c = false := fun q => by
    cases hq : c
    · rfl
    · exact absurd (hc.1 hq) q
  by_cases c1 : S.w < S.lo
  · rw [no fun q => q.1 c1]
    have q : PC.Ok (EW S y 0 0 0 0 0 0 0) cz1' := .cons' c1 .nil
    exact tree_funL hF ((pS_ok V).app q) wide cv_1 (by kernel_rfl) rfl (u := .bool false) (All.ret rfl)
  by_cases c2 : S.hi < S.r
  · rw [no fun q => q.2.1 c2]
    have q : PC.Ok (EW S y 0 0 0 0 0 0 0) cz2' := .cons' (Int.not_lt.1 c1) (.cons' c2 .nil)
    exact tree_funL hF ((pS_ok V).app q) wide cv_2 (by kernel_rfl) rfl (u := .bool false) (All.ret rfl)
  have hz : ∀ {k}, PC.Ok (EW S y 0 0 k 0 0 0 0) czR := .cons' (Int.not_lt.1 c1) (.cons' (Int.not_lt.1 c2) .nil)
  obtain ⟨k, k0, k1, k2, k3⟩ := first_of (fun j => ¬ Rt S j) S.n V.L.nn
  rcases k3 with rfl | ⟨k3, k4⟩
  · rw [hc.2 ⟨c1, c2, k2⟩]
    exact tree_funL (famV (be := 0) (cb := 0) (k15 := 0) (k16 := 0) (k17 := 0) (k18 := 0) V k0 (Int.le_refl _) k2 (kOut_ok (i := 14) (Int.le_refl _))) ((pS_ok V).app hz) wide cv_3 (by kernel_rfl) rfl (u := .bool true) (All.ret rfl)
  · rw [no fun q => k4 (q.2.2 k k0 k3)]
    have hk : PC.Ok (EW S y 0 0 k 0 0 0 0) (rowF (.at 14)) := ew_lk.rowF V.h (e := .at 14) k0 k3
    have k4 := Classical.not_not.1 k4
    by_cases d0 : S.sd k 0 < 0
    · have q : PC.Ok (EW S y 0 0 k 0 0 0 0) (rv 0) := rtT0 d0
      exact tree_funL (famV V k0 k1 k2 (hk.app q)) ((pS_ok V).app hz) wide cv_x0 (by kernel_rfl) rfl (u := .bool false) (All.ret rfl)
    by_cases d1 : S.sd k 1 < 0
    · have q : PC.Ok (EW S y 0 0 k 0 0 0 0) (rv 1) := (rtF0 d0).app (rtT1 d1)
      exact tree_funL (famV V k0 k1 k2 (hk.app q)) ((pS_ok V).app hz) wide cv_x1 (by kernel_rfl) rfl (u := .bool false) (All.ret rfl)
    by_cases d2 : S.sd k 2 < 0
    · have q : PC.Ok (EW S y 0 0 k 0 0 0 0) (rv 2) := ((rtF0 d0).app (rtF1 d1)).app (rtT2 d2)
      exact tree_funL (famV V k0 k1 k2 (hk.app q)) ((pS_ok V).app hz) wide cv_x2 (by kernel_rfl) rfl (u := .bool false) (All.ret rfl)
    have d3 : S.sd k 3 < 0 := by
      rcases k4 with q | q | q | q
      · exact absurd q d0
      · exact absurd q d1
      · exact absurd q d2
      · exact q
    have q : PC.Ok (EW S y 0 0 k 0 0 0 0) (rv 3) := (((rtF0 d0).app (rtF1 d1)).app (rtF2 d2)).app (rtT3 d3)
    exact tree_funL (famV V k0 k1 k2 (hk.app q)) ((pS_ok V).app hz) wide cv_x3 (by kernel_rfl) rfl (u := .bool false) (All.ret rfl)
/-! Separator. -/
theorem nr_all (V : Val S y W) : (Nr S 0 ↔ mxY S ≤ S.v) ∧ (Nr S 1 ↔ S.p ≤ lx S) ∧ (Nr S 2 ↔ S.q ≤ ly S) ∧ (Nr S 3 ↔ mxX S ≤ S.u) := by
  have b := V.b
  have hn : 0 < S.n := by have := V.h.n3; omega
  obtain ⟨hb, ⟨i0, i1, i2, i3⟩, ⟨j0, j1, j2, j3⟩, ⟨k0, k1, k2, k3⟩, ⟨l0, l1, l2, l3⟩⟩ := bnd (S := S) hn
  refine ⟨⟨fun q => ?_, fun q j a c => ?_⟩, ⟨fun q => ?_, fun q j a c => ?_⟩, ⟨fun q => ?_, fun q j a c => ?_⟩, ⟨fun q => ?_, fun q j a c => ?_⟩⟩
  · rw [l3]; have := q l0 l1 l2; rw [se0 b] at this; omega
  · rw [se0 b]; have := (hb j a c).2.2.2; omega
  · rw [i3]; have := q i0 i1 i2; rw [se1 b] at this; omega
  · rw [se1 b]; have := (hb j a c).1; omega
  · rw [j3]; have := q j0 j1 j2; rw [se2 b] at this; omega
  · rw [se2 b]; have := (hb j a c).2.1; omega
  · rw [k3]; have := q k0 k1 k2; rw [se3 b] at this; omega
  · rw [se3 b]; have := (hb j a c).2.2.1; omega
def rI' (c : Int) : T SV := .ret (.one (i8 (.lit c)))
theorem sp_x : treeL Try.prog [] [L0] [AS exN] pS 300 20 24 AR = .ret (.one (i8 (.at 14))) := by kernel_rfl
theorem sp_0 : treeL Try.prog [] [L0] [AS (kOut 14), ABy 4 3 9 15 (kOut 15)] pS 300 20 24 AR = rI' (1000) := by kernel_rfl
theorem sp_1 : treeL Try.prog [] [L0] [AS (kOut 14), ABy 4 3 9 15 (fe 15 3), ABy 4 1 9 16 (kOut 16)] pS 300 20 24 AR = rI' (1001) := by kernel_rfl
theorem sp_2 : treeL Try.prog [] [L0] [AS (kOut 14), ABy 4 3 9 15 (fe 15 3), ABy 4 1 9 16 (fe 16 1), ABy 4 0 9 17 (kOut 17)] pS 300 20 24 AR = rI' (1002) := by kernel_rfl
theorem sp_3 : treeL Try.prog [] [L0] [AS (kOut 14), ABy 4 3 9 15 (fe 15 3), ABy 4 1 9 16 (fe 16 1), ABy 4 0 9 17 (fe 17 0), ABy 4 2 9 18 (kOut 18)] pS 300 20 24 AR = rI' (1003) := by kernel_rfl
theorem sp_4 : treeL Try.prog [] [L0] [AS (kOut 14), ABy 4 3 9 15 (fe 15 3), ABy 4 1 9 16 (fe 16 1), ABy 4 0 9 17 (fe 17 0), ABy 4 2 9 18 (fe 18 2)] pS 300 20 24 AR = rI' (-1) := by kernel_rfl
theorem spR_1 (V : Val S y W) {k : Int} (h0 : 0 ≤ k) (h1 : k < S.n) (hl : ∀ j, 0 ≤ j → j < k → Lf S j) (hn : ¬ Lf S k) : Calls Try.prog 24 #[PV S y, BV S] W fun e w' => e = .returned (.int .i64 k) ∧ Below W.heap.size W w' :=
  tree_funL (ρ := EW S y 0 0 k 0 0 0 0) (fam14 (con := []) (tl := []) (A := AS exN) V rfl rfl rfl rfl (fun _ => ⟨.nil, ewl V.L⟩) h0 (by omega) hl (exN_ok V h0 h1 hn)) (pS_ok V) wide sp_x (by kernel_rfl) rfl (u := .int .i64 k) (All.ret rfl)
theorem spR_2 (V : Val S y W) (hl : ∀ j, 0 ≤ j → j < S.n → Lf S j) : Calls Try.prog 24 #[PV S y, BV S] W fun e w' => e = .returned (.int .i64 (sepv S)) ∧ Below W.heap.size W w' := by
  have base : ∀ {a b c d e : Int}, Fam (Bs Try.prog W [] [L0]) [] (EW S y 0 0 a b c d e) := ⟨.nil, ewl V.L⟩
  obtain ⟨r0, r1, r2, r3⟩ := nr_all V
  by_cases n0 : Nr S 3
  · have e : sepv S = 1000 := by
      unfold sepv
      rw [if_pos (r3.1 n0)]
    rw [e]
    exact tree_funL (ρ := EW S y 0 0 S.n S.n 0 0 0) (fam14 (A := AS (kOut 14)) V rfl rfl rfl rfl (fun _ => (fam15 (o := 4) (e := 3) (nx := 9) V (fun _ => base) V.L.nn (Int.le_refl _) (fun _ => rfl) n0 (kOut_ok (i := 15) (Int.le_refl _)))) V.L.nn (Int.le_refl _) hl (kOut_ok (i := 14) (Int.le_refl _))) (pS_ok V) wide sp_0 (by kernel_rfl) rfl (u := .int .i64 (1000)) (All.ret rfl)
  obtain ⟨a0, a00, a01, a02, a05⟩ := first_of (fun j => ¬ 0 < S.se j 3) S.n V.L.nn
  have a06 : a0 < S.n ∧ 0 < S.se a0 3 := by
    rcases a05 with rfl | ⟨q1, q2⟩
    · exact absurd a02 n0
    · exact ⟨q1, Decidable.not_not.1 q2⟩
  have a03 := a06.1
  have a04 := a06.2
  by_cases n1 : Nr S 1
  · have e : sepv S = 1001 := by
      unfold sepv
      rw [if_neg (fun q => n0 (r3.2 q)), if_pos (r1.1 n1)]
    rw [e]
    exact tree_funL (ρ := EW S y 0 0 S.n a0 S.n 0 0) (fam14 (A := AS (kOut 14)) V rfl rfl rfl rfl (fun _ => (fam15 (o := 4) (e := 3) (nx := 9) V (fun _ => (fam16 (o := 4) (e := 1) (nx := 9) V (fun _ => base) V.L.nn (Int.le_refl _) (fun _ => rfl) n1 (kOut_ok (i := 16) (Int.le_refl _)))) a00 a01 (fun _ => rfl) a02 (fe_ok (i := 15) (e := 3) V ew_lk a00 a03 a04))) V.L.nn (Int.le_refl _) hl (kOut_ok (i := 14) (Int.le_refl _))) (pS_ok V) wide sp_1 (by kernel_rfl) rfl (u := .int .i64 (1001)) (All.ret rfl)
  obtain ⟨a1, a10, a11, a12, a15⟩ := first_of (fun j => ¬ 0 < S.se j 1) S.n V.L.nn
  have a16 : a1 < S.n ∧ 0 < S.se a1 1 := by
    rcases a15 with rfl | ⟨q1, q2⟩
    · exact absurd a12 n1
    · exact ⟨q1, Decidable.not_not.1 q2⟩
  have a13 := a16.1
  have a14 := a16.2
  by_cases n2 : Nr S 0
  · have e : sepv S = 1002 := by
      unfold sepv
      rw [if_neg (fun q => n0 (r3.2 q)), if_neg (fun q => n1 (r1.2 q)), if_pos (r0.1 n2)]
    rw [e]
    exact tree_funL (ρ := EW S y 0 0 S.n a0 a1 S.n 0) (fam14 (A := AS (kOut 14)) V rfl rfl rfl rfl (fun _ => (fam15 (o := 4) (e := 3) (nx := 9) V (fun _ => (fam16 (o := 4) (e := 1) (nx := 9) V (fun _ => (fam17 (o := 4) (e := 0) (nx := 9) V (fun _ => base) V.L.nn (Int.le_refl _) (fun _ => rfl) n2 (kOut_ok (i := 17) (Int.le_refl _)))) a10 a11 (fun _ => rfl) a12 (fe_ok (i := 16) (e := 1) V ew_lk a10 a13 a14))) a00 a01 (fun _ => rfl) a02 (fe_ok (i := 15) (e := 3) V ew_lk a00 a03 a04))) V.L.nn (Int.le_refl _) hl (kOut_ok (i := 14) (Int.le_refl _))) (pS_ok V) wide sp_2 (by kernel_rfl) rfl (u := .int .i64 (1002)) (All.ret rfl)
  obtain ⟨a2, a20, a21, a22, a25⟩ := first_of (fun j => ¬ 0 < S.se j 0) S.n V.L.nn
  have a26 : a2 < S.n ∧ 0 < S.se a2 0 := by
    rcases a25 with rfl | ⟨q1, q2⟩
    · exact absurd a22 n2
    · exact ⟨q1, Decidable.not_not.1 q2⟩
  have a23 := a26.1
  have a24 := a26.2
  by_cases n3 : Nr S 2
  · have e : sepv S = 1003 := by
      unfold sepv
      rw [if_neg (fun q => n0 (r3.2 q)), if_neg (fun q => n1 (r1.2 q)), if_neg (fun q => n2 (r0.2 q)), if_pos (r2.1 n3)]
    rw [e]
    exact tree_funL (ρ := EW S y 0 0 S.n a0 a1 a2 S.n) (fam14 (A := AS (kOut 14)) V rfl rfl rfl rfl (fun _ => (fam15 (o := 4) (e := 3) (nx := 9) V (fun _ => (fam16 (o := 4) (e := 1) (nx := 9) V (fun _ => (fam17 (o := 4) (e := 0) (nx := 9) V (fun _ => (fam18 (o := 4) (e := 2) (nx := 9) V (fun _ => base) V.L.nn (Int.le_refl _) (fun _ => rfl) n3 (kOut_ok (i := 18) (Int.le_refl _)))) a20 a21 (fun _ => rfl) a22 (fe_ok (i := 17) (e := 0) V ew_lk a20 a23 a24))) a10 a11 (fun _ => rfl) a12 (fe_ok (i := 16) (e := 1) V ew_lk a10 a13 a14))) a00 a01 (fun _ => rfl) a02 (fe_ok (i := 15) (e := 3) V ew_lk a00 a03 a04))) V.L.nn (Int.le_refl _) hl (kOut_ok (i := 14) (Int.le_refl _))) (pS_ok V) wide sp_3 (by kernel_rfl) rfl (u := .int .i64 (1003)) (All.ret rfl)
  obtain ⟨a3, a30, a31, a32, a35⟩ := first_of (fun j => ¬ 0 < S.se j 2) S.n V.L.nn
  have a36 : a3 < S.n ∧ 0 < S.se a3 2 := by
    rcases a35 with rfl | ⟨q1, q2⟩
    · exact absurd a32 n3
    · exact ⟨q1, Decidable.not_not.1 q2⟩
  have a33 := a36.1
  have a34 := a36.2
  have e : sepv S = -1 := by
    unfold sepv
    rw [if_neg (fun q => n0 (r3.2 q)), if_neg (fun q => n1 (r1.2 q)), if_neg (fun q => n2 (r0.2 q)), if_neg (fun q => n3 (r2.2 q))]
  rw [e]
  exact tree_funL (ρ := EW S y 0 0 S.n a0 a1 a2 a3) (fam14 (A := AS (kOut 14)) V rfl rfl rfl rfl (fun _ => (fam15 (o := 4) (e := 3) (nx := 9) V (fun _ => (fam16 (o := 4) (e := 1) (nx := 9) V (fun _ => (fam17 (o := 4) (e := 0) (nx := 9) V (fun _ => (fam18 (o := 4) (e := 2) (nx := 9) V (fun _ => base) a30 a31 (fun _ => rfl) a32 (fe_ok (i := 18) (e := 2) V ew_lk a30 a33 a34))) a20 a21 (fun _ => rfl) a22 (fe_ok (i := 17) (e := 0) V ew_lk a20 a23 a24))) a10 a11 (fun _ => rfl) a12 (fe_ok (i := 16) (e := 1) V ew_lk a10 a13 a14))) a00 a01 (fun _ => rfl) a02 (fe_ok (i := 15) (e := 3) V ew_lk a00 a03 a04))) V.L.nn (Int.le_refl _) hl (kOut_ok (i := 14) (Int.le_refl _))) (pS_ok V) wide sp_4 (by kernel_rfl) rfl (u := .int .i64 (-1)) (All.ret rfl)
end
end Go.Proofs.Ytmpadjlplgajcaa
