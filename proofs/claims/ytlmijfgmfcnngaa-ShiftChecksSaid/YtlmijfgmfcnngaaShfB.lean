/- Calendars: two lists; which are valid. -/
import Derived.Test.YtlmijfgmfcnngaaShfA
import Derived.Test.YtlmijfgmfcnngaaEzW
namespace Go.Proofs.Ytlmijfgmfcnngaa
open Go.RowKit
structure Lay where
  p : Option Addr
  a : Nat
  o : Nat
  c : Nat
/-- A calendar and a minute. -/
structure C0 where
  n1 : Int
  n2 : Int
  wd : Int → Int
  fr : Int → Int
  to : Int → Int
  fd : Int → Int
  m : Int
def EP (xs : List Int) (F : Nat → Int → Int → Int) (y z : Lay) : EnvS := ⟨fun i => xs.getD i 0, F, fun _ _ _ => undef, fun i => if i = 0 then y.a else z.a, fun i => if i = 0 then y.o else z.o, fun i => if i = 0 then y.p else z.p, fun i => if i = 0 then y.c else z.c⟩
theorem EP_upd {xs : List Int} {F : Nat → Int → Int → Int} {y z : Lay} {i : Nat} {j : Int} (h : i < xs.length) : (EP xs F y z).upd i j = EP (xs.set i j) F y z := by
  unfold EnvS.upd EP
  simp only
  congr 1
  funext k
  by_cases e : k = i
  · subst e; simp [List.getD_eq_getElem?_getD, h]
  · simp [List.getD_eq_getElem?_getD, e, Ne.symm e]
namespace C0
variable (S : C0)
/-- How many minutes the first k shifts are long. -/
def wk : Nat → Int
  | 0 => 0
  | k + 1 => wk k + (S.to k - S.fr k)
def day : Int := S.m.tdiv 1440
def lo (k : Int) : Int := mxI S.m (S.day * 1440 + S.fr k)
def hi (k : Int) : Int := mnI (mnI (S.m + 1) 14400000) (S.day * 1440 + S.to k)
/-- How many minutes of work the first k shifts give between the minute and the next one. -/
def sm : Nat → Int
  | 0 => 0
  | k + 1 => sm k + (if S.wd k = S.day.tmod 7 + 1 then (if S.lo k < S.hi k then S.hi k - S.lo k else 0) else 0)
def F (f : Nat) (k c : Int) : Int :=
  if f = 0 then (if c = 0 then S.wd k else if c = 1 then S.fr k else S.to k)
  else if f = 1 then S.fd k
  else if f = 6 then S.wk k.toNat
  else if f = 7 then S.sm k.toNat
  else 0
/-- A shift, a free day in range; two of them in order. -/
def Rt (k : Int) : Prop := 1 ≤ S.wd k ∧ S.wd k ≤ 7 ∧ 0 ≤ S.fr k ∧ S.fr k < S.to k ∧ S.to k ≤ 1440
def Rd (k : Int) : Prop := 0 ≤ S.fd k ∧ S.fd k < 10000
def Os (k : Int) : Prop := S.wd k < S.wd (k + 1) ∨ (S.wd k = S.wd (k + 1) ∧ S.to k ≤ S.fr (k + 1))
def Od (k : Int) : Prop := S.fd k < S.fd (k + 1)
end C0
structure Lies (S : C0) (y z : Lay) (w : World) : Prop where
  n1 : 0 ≤ S.n1
  n2 : 0 ≤ S.n2
  p1 : 0 < S.n1 → y.p = some ⟨y.a, y.o, none⟩
  p2 : 0 < S.n2 → z.p = some ⟨z.a, z.o, none⟩
  c0 : ∀ j : Nat, (j : Int) < S.n1 → w.cell? ⟨y.a, y.o + j * 3, none⟩ = some (.int .i64 (S.wd j))
  c1 : ∀ j : Nat, (j : Int) < S.n1 → w.cell? ⟨y.a, y.o + j * 3 + 1, none⟩ = some (.int .i64 (S.fr j))
  c2 : ∀ j : Nat, (j : Int) < S.n1 → w.cell? ⟨y.a, y.o + j * 3 + 2, none⟩ = some (.int .i64 (S.to j))
  d0 : ∀ j : Nat, (j : Int) < S.n2 → w.cell? ⟨z.a, z.o + j * 1, none⟩ = some (.int .i64 (S.fd j))
def L0 : LD := ⟨0, 1, 54, [.int .i64, .int .i64, .int .i64]⟩
def L1 : LD := ⟨1, 2, 3, [.int .i64]⟩
def ES (S : C0) (y z : Lay) (be k0 k1 k2 k3 k4 : Int) : EnvS := EP [S.m, S.n1, S.n2, 0, 0, 0, 0, 0, 0, be, k0, k1, k2, k3, k4] S.F y z
section
variable {S : C0} {y z : Lay} {W : World} {be k0 k1 k2 k3 k4 j : Int}
theorem ES_10 : (ES S y z be k0 k1 k2 k3 k4).upd 10 j = ES S y z be j k1 k2 k3 k4 := EP_upd (by simp)
theorem ES_11 : (ES S y z be k0 k1 k2 k3 k4).upd 11 j = ES S y z be k0 j k2 k3 k4 := EP_upd (by simp)
theorem ES_12 : (ES S y z be k0 k1 k2 k3 k4).upd 12 j = ES S y z be k0 k1 j k3 k4 := EP_upd (by simp)
theorem ES_13 : (ES S y z be k0 k1 k2 k3 k4).upd 13 j = ES S y z be k0 k1 k2 j k4 := EP_upd (by simp)
theorem ES_14 : (ES S y z be k0 k1 k2 k3 k4).upd 14 j = ES S y z be k0 k1 k2 k3 j := EP_upd (by simp)
theorem esl (h : Lies S y z W) : ∀ L ∈ [L0, L1], LOk (ES S y z be k0 k1 k2 k3 k4) W L := fun L hL => by
  rcases List.mem_cons.1 hL with rfl | hL
  · refine ⟨h.n1, h.p1, fun j c k hj hk => ?_⟩
    have hj' : (j : Int) < S.n1 := hj
    match c, hk with
    | 0, hk => cases hk; exact h.c0 j hj'
    | 1, hk => cases hk; exact h.c1 j hj'
    | 2, hk => cases hk; exact h.c2 j hj'
    | c + 3, hk => simp [L0] at hk
  · rw [List.mem_singleton.1 hL]
    refine ⟨h.n2, h.p2, fun j c k hj hk => ?_⟩
    have hj' : (j : Int) < S.n2 := hj
    match c, hk with
    | 0, hk => cases hk; exact h.d0 j hj'
    | c + 1, hk => simp [L1] at hk
theorem Lies.mono {w w' : World} (h : Lies S y z w) (hb : Below w.heap.size w w') : Lies S y z w' := by
  have key : ∀ {b o : Nat} {v : Value}, w.cell? ⟨b, o, none⟩ = some v → w'.cell? ⟨b, o, none⟩ = some v := fun {b o v} e => by
    have hlt : b < w.heap.size := by
      unfold World.cell? at e
      simp only at e
      by_cases q : b < w.heap.size
      · exact q
      · rw [Array.getElem?_eq_none (by omega)] at e; cases e
    rw [hb.cell (p := ⟨b, o, none⟩) hlt, e]
  exact ⟨h.n1, h.n2, h.p1, h.p2, fun j hj => key (h.c0 j hj), fun j hj => key (h.c1 j hj), fun j hj => key (h.c2 j hj), fun j hj => key (h.d0 j hj)⟩
/-! What is known in loops. -/
def i8 (e : IE) : SCl := .int .i64 e
def CV : SV := .agg [.ssl L0, .ssl L1]
def pn : PC := rg 1 0 64 ++ rg 2 0 64
def kIn (i n : Nat) : PC := [(.lt (.at i) (.at n), true), (.le (.lit 0) (.at i), true), (.lt (.at i) (.lit 0), false), (.lt (.lit 64) (.at i), false)]
def kOut (i n : Nat) : PC := [(.lt (.at i) (.at n), false)]
def s0 (k : IE) (c : Int) : IE := .ap 0 k (.lit c)
def f0 (k : IE) : IE := .ap 1 k (.lit 0)
def nx (k : IE) : IE := .add k (.lit 1)
def pv (k : IE) : IE := .sub (nx k) (.lit 1)
def rgt (k : IE) : PC := [(.lt (s0 k 0) (.lit 1), false), (.lt (.lit 7) (s0 k 0), false), (.lt (s0 k 1) (.lit 0), false), (.le (s0 k 2) (s0 k 1), false), (.lt (.lit 1440) (s0 k 2), false)]
def rgd (k : IE) : PC := [(.lt (f0 k) (.lit 0), false), (.le (.lit 10000) (f0 k), false)]
def w0 (k : IE) : PC := [(.lt (s0 k 0) (.lit 1), true)]
def w1 (k : IE) : PC := [(.lt (s0 k 0) (.lit 1), false), (.lt (.lit 7) (s0 k 0), true)]
def w2 (k : IE) : PC := [(.lt (s0 k 0) (.lit 1), false), (.lt (.lit 7) (s0 k 0), false), (.lt (s0 k 1) (.lit 0), true)]
def w3 (k : IE) : PC := [(.lt (s0 k 0) (.lit 1), false), (.lt (.lit 7) (s0 k 0), false), (.lt (s0 k 1) (.lit 0), false), (.le (s0 k 2) (s0 k 1), true)]
def w4 (k : IE) : PC := [(.lt (s0 k 0) (.lit 1), false), (.lt (.lit 7) (s0 k 0), false), (.lt (s0 k 1) (.lit 0), false), (.le (s0 k 2) (s0 k 1), false), (.lt (.lit 1440) (s0 k 2), true)]
def d0 (k : IE) : PC := [(.lt (f0 k) (.lit 0), true)]
def d1 (k : IE) : PC := [(.lt (f0 k) (.lit 0), false), (.le (.lit 10000) (f0 k), true)]
def kInC (i n : Nat) : PC := [(.lt (nx (.at i)) (.at n), true), (.le (.lit 0) (nx (.at i)), true), (.le (.lit 0) (pv (.at i)), true), (.lt (pv (.at i)) (.at n), true), (.lt (.at i) (.lit 0), false), (.lt (.lit 64) (.at i), false)]
def kOutC (i n : Nat) : PC := [(.lt (nx (.at i)) (.at n), false), (.lt (.at i) (.lit 0), false), (.lt (.lit 64) (.at i), false)]
def oA (k : IE) : PC := [(.lt (s0 (nx k) 0) (s0 (pv k) 0), false), (.eq (s0 (pv k) 0) (s0 (nx k) 0), false)]
def oB (k : IE) : PC := [(.lt (s0 (nx k) 0) (s0 (pv k) 0), false), (.eq (s0 (pv k) 0) (s0 (nx k) 0), true), (.lt (s0 (nx k) 1) (s0 (pv k) 2), false)]
def oX (k : IE) : PC := [(.lt (s0 (nx k) 0) (s0 (pv k) 0), true)]
def oY (k : IE) : PC := [(.lt (s0 (nx k) 0) (s0 (pv k) 0), false), (.eq (s0 (pv k) 0) (s0 (nx k) 0), true), (.lt (s0 (nx k) 1) (s0 (pv k) 2), true)]
def dA (k : IE) : PC := [(.le (f0 (nx k)) (f0 (pv k)), false)]
def dX (k : IE) : PC := [(.le (f0 (nx k)) (f0 (pv k)), true)]
/-! The loops. -/
def P1 (key : Nat) (tms : Tm) (cobs : List Nat) (ex : PC) : LAnn := ⟨key, 10, tms, [], cobs, ex, [pn ++ kIn 10 1 ++ rgt (.at 10)], 1⟩
def P2 (key : Nat) (tms : Tm) (cobs : List Nat) (ex : PC) : LAnn := ⟨key, 11, tms, [], cobs, ex, [pn ++ kIn 11 2 ++ rgd (.at 11)], 1⟩
def P3 (key : Nat) (tms : Tm) (cobs : List Nat) (ex : PC) : LAnn := ⟨key, 12, tms, [], cobs, ex, [pn ++ kInC 12 1 ++ oA (.at 12), pn ++ kInC 12 1 ++ oB (.at 12)], 1⟩
def P4 (key : Nat) (tms : Tm) (cobs : List Nat) (ex : PC) : LAnn := ⟨key, 13, tms, [], cobs, ex, [pn ++ kInC 13 2 ++ dA (.at 13)], 1⟩
def A1 : PC → LAnn := P1 909666 [(8, .one (i8 (.at 10))), (7, .one (i8 (.at 1))), (6, .one (.ssl L0)), (4, .one (i8 (.lit 0))), (0, .one (.ssl L0)), (1, .one (.raw (.func (.func 48) #[] #[])))] []
def A2 : PC → LAnn := P2 909666 [(8, .one (i8 (.at 11))), (7, .one (i8 (.at 2))), (6, .one (.ssl L1)), (4, .one (i8 (.lit 0))), (0, .one (.ssl L1)), (1, .one (.raw (.func (.func 49) #[] #[])))] []
def A3 : PC → LAnn := P3 9432 [(3, .one (i8 (nx (.at 12)))), (2, .one (.bool (.lit false))), (1, .one (.ptr 0 0)), (0, CV)] [0]
def A4 : PC → LAnn := P4 902059 [(6, .one (i8 (nx (.at 13)))), (2, .one (.bool (.lit false))), (1, .one (.ptr 0 0)), (0, CV)] [0]
def rT (t : Nat) (v : SV) : Tm := [(t, v), (2, .one (i8 (.lit 0))), (1, .one (.ptr 0 0)), (0, CV)]
def B1 : PC → LAnn := P1 912007 (rT 3 (.one (i8 (.at 10)))) [0]
def B2 : PC → LAnn := P2 894789 (rT 5 (.one (i8 (.at 11)))) [0]
def B3 : PC → LAnn := P3 981799 (rT 6 (.one (i8 (nx (.at 12))))) [0]
def B4 : PC → LAnn := P4 866530 (rT 9 (.one (i8 (nx (.at 13))))) [0]
/-- The bounds of the lengths. -/
structure Few (S : C0) : Prop where
  a : 0 ≤ S.n1
  b : S.n1 ≤ 64
  c : 0 ≤ S.n2
  d : S.n2 ≤ 64
theorem pn_ok (h : Few S) : pn.Ok (ES S y z be k0 k1 k2 k3 k4) := (rg_ok (i := 1) h.a h.b).app (rg_ok (i := 2) h.c h.d)
theorem kIn1 (h : Few S) (h0 : 0 ≤ k0) (h1 : k0 < S.n1) : (kIn 10 1).Ok (ES S y z be k0 k1 k2 k3 k4) := .cons' h1 (.cons' h0 (.cons' h0 (.cons' (by show k0 ≤ 64; have := h.b; omega) .nil)))
theorem kIn2 (h : Few S) (h0 : 0 ≤ k1) (h1 : k1 < S.n2) : (kIn 11 2).Ok (ES S y z be k0 k1 k2 k3 k4) := .cons' h1 (.cons' h0 (.cons' h0 (.cons' (by show k1 ≤ 64; have := h.d; omega) .nil)))
theorem kIn3 (h : Few S) (h0 : 0 ≤ k2) (h1 : k2 + 1 < S.n1) : (kInC 12 1).Ok (ES S y z be k0 k1 k2 k3 k4) := .cons' h1 (.cons' (by show 0 ≤ k2 + 1; omega) (.cons' (by show 0 ≤ k2 + 1 - 1; omega) (.cons' (by show k2 + 1 - 1 < S.n1; omega) (.cons' h0 (.cons' (by show k2 ≤ 64; have := h.b; omega) .nil)))))
theorem kIn4 (h : Few S) (h0 : 0 ≤ k3) (h1 : k3 + 1 < S.n2) : (kInC 13 2).Ok (ES S y z be k0 k1 k2 k3 k4) := .cons' h1 (.cons' (by show 0 ≤ k3 + 1; omega) (.cons' (by show 0 ≤ k3 + 1 - 1; omega) (.cons' (by show k3 + 1 - 1 < S.n2; omega) (.cons' h0 (.cons' (by show k3 ≤ 64; have := h.d; omega) .nil)))))
theorem rgt_ok (h : S.Rt k0) : (rgt (.at 10)).Ok (ES S y z be k0 k1 k2 k3 k4) := .cons' h.1 (.cons' h.2.1 (.cons' h.2.2.1 (.cons' h.2.2.2.1 (.cons' h.2.2.2.2 .nil))))
theorem rgd_ok (h : S.Rd k1) : (rgd (.at 11)).Ok (ES S y z be k0 k1 k2 k3 k4) := .cons' h.1 (.cons' h.2 .nil)
theorem pvE (k : Int) : k + 1 - 1 = k := by omega
theorem dA_ok (h : S.Od k3) : (dA (.at 13)).Ok (ES S y z be k0 k1 k2 k3 k4) := .cons' (by show S.fd (k3 + 1 - 1) < S.fd (k3 + 1); rw [pvE]; exact h) .nil
theorem dX_ok (h : ¬ S.Od k3) : (dX (.at 13)).Ok (ES S y z be k0 k1 k2 k3 k4) := .cons' (by show S.fd (k3 + 1) ≤ S.fd (k3 + 1 - 1); rw [pvE]; exact Int.not_lt.1 h) .nil
theorem oAB_ok (h : S.Os k2) : (oA (.at 12)).Ok (ES S y z be k0 k1 k2 k3 k4) ∨ (oB (.at 12)).Ok (ES S y z be k0 k1 k2 k3 k4) := by
  rcases h with h | ⟨h, h'⟩
  · exact .inl (.cons' (by show S.wd (k2 + 1 - 1) ≤ S.wd (k2 + 1); rw [pvE]; omega) (.cons' (by show S.wd (k2 + 1 - 1) ≠ S.wd (k2 + 1); rw [pvE]; omega) .nil))
  · exact .inr (.cons' (by show S.wd (k2 + 1 - 1) ≤ S.wd (k2 + 1); rw [pvE]; omega) (.cons' (by show S.wd (k2 + 1 - 1) = S.wd (k2 + 1); rw [pvE]; omega) (.cons' (by show S.to (k2 + 1 - 1) ≤ S.fr (k2 + 1); rw [pvE]; omega) .nil)))
theorem oXY_ok (h : ¬ S.Os k2) : (oX (.at 12)).Ok (ES S y z be k0 k1 k2 k3 k4) ∨ (oY (.at 12)).Ok (ES S y z be k0 k1 k2 k3 k4) := by
  unfold C0.Os at h
  by_cases c : S.wd (k2 + 1) < S.wd k2
  · exact .inl (.cons' (by show S.wd (k2 + 1) < S.wd (k2 + 1 - 1); rw [pvE]; omega) .nil)
  · exact .inr (.cons' (by show S.wd (k2 + 1 - 1) ≤ S.wd (k2 + 1); rw [pvE]; omega) (.cons' (by show S.wd (k2 + 1 - 1) = S.wd (k2 + 1); rw [pvE]; omega) (.cons' (by show S.fr (k2 + 1) < S.to (k2 + 1 - 1); rw [pvE]; omega) .nil)))
section
variable {B : EnvS → Prop} {tl : List LAnn} {key : Nat} {tms : Tm} {cobs : List Nat} {ex : PC}
theorem fam1 (h : Few S) (htl : ∀ j, Fam B tl (ES S y z be j k1 k2 k3 k4)) (h0 : 0 ≤ k0) (h1 : k0 ≤ S.n1) (hc : ∀ j, 0 ≤ j → j < k0 → S.Rt j) (hex : ex.Ok (ES S y z be k0 k1 k2 k3 k4)) : Fam B (P1 key tms cobs ex :: tl) (ES S y z be k0 k1 k2 k3 k4) := by
  refine ⟨htl _, h0, hex, fun j a b => ?_⟩
  have b : j < k0 := b
  have e : (ES S y z be k0 k1 k2 k3 k4).upd (P1 key tms cobs ex).i j = ES S y z be j k1 k2 k3 k4 := ES_10
  rw [e]
  exact ⟨⟨_, List.mem_singleton.2 rfl, ((pn_ok h).app (kIn1 h a (by omega))).app (rgt_ok (hc j a b))⟩, htl _⟩
theorem fam2 (h : Few S) (htl : ∀ j, Fam B tl (ES S y z be k0 j k2 k3 k4)) (h0 : 0 ≤ k1) (h1 : k1 ≤ S.n2) (hc : ∀ j, 0 ≤ j → j < k1 → S.Rd j) (hex : ex.Ok (ES S y z be k0 k1 k2 k3 k4)) : Fam B (P2 key tms cobs ex :: tl) (ES S y z be k0 k1 k2 k3 k4) := by
  refine ⟨htl _, h0, hex, fun j a b => ?_⟩
  have b : j < k1 := b
  have e : (ES S y z be k0 k1 k2 k3 k4).upd (P2 key tms cobs ex).i j = ES S y z be k0 j k2 k3 k4 := ES_11
  rw [e]
  exact ⟨⟨_, List.mem_singleton.2 rfl, ((pn_ok h).app (kIn2 h a (by omega))).app (rgd_ok (hc j a b))⟩, htl _⟩
theorem fam3 (h : Few S) (htl : ∀ j, Fam B tl (ES S y z be k0 k1 j k3 k4)) (h0 : 0 ≤ k2) (h1 : k2 = 0 ∨ k2 + 1 ≤ S.n1) (hc : ∀ j, 0 ≤ j → j < k2 → S.Os j) (hex : ex.Ok (ES S y z be k0 k1 k2 k3 k4)) : Fam B (P3 key tms cobs ex :: tl) (ES S y z be k0 k1 k2 k3 k4) := by
  refine ⟨htl _, h0, hex, fun j a b => ?_⟩
  have b : j < k2 := b
  have e : (ES S y z be k0 k1 k2 k3 k4).upd (P3 key tms cobs ex).i j = ES S y z be k0 k1 j k3 k4 := ES_12
  rw [e]
  have q := (pn_ok (y := y) (z := z) (be := be) (k0 := k0) (k1 := k1) (k2 := j) (k3 := k3) (k4 := k4) h).app (kIn3 h a (by omega))
  refine ⟨?_, htl _⟩
  rcases oAB_ok (y := y) (z := z) (be := be) (k0 := k0) (k1 := k1) (k3 := k3) (k4 := k4) (hc j a b) with g | g
  · exact ⟨_, List.mem_cons_self .., q.app g⟩
  · exact ⟨_, List.mem_cons_of_mem _ (List.mem_cons_self ..), q.app g⟩
theorem fam4 (h : Few S) (htl : ∀ j, Fam B tl (ES S y z be k0 k1 k2 j k4)) (h0 : 0 ≤ k3) (h1 : k3 = 0 ∨ k3 + 1 ≤ S.n2) (hc : ∀ j, 0 ≤ j → j < k3 → S.Od j) (hex : ex.Ok (ES S y z be k0 k1 k2 k3 k4)) : Fam B (P4 key tms cobs ex :: tl) (ES S y z be k0 k1 k2 k3 k4) := by
  refine ⟨htl _, h0, hex, fun j a b => ?_⟩
  have b : j < k3 := b
  have e : (ES S y z be k0 k1 k2 k3 k4).upd (P4 key tms cobs ex).i j = ES S y z be k0 k1 k2 j k4 := ES_13
  rw [e]
  exact ⟨⟨_, List.mem_singleton.2 rfl, ((pn_ok h).app (kIn4 h a (by omega))).app (dA_ok (hc j a b))⟩, htl _⟩
end
end
end Go.Proofs.Ytlmijfgmfcnngaa
