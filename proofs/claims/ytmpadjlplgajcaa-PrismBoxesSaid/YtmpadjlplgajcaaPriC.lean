/- Over the base: inRange, convex, Bounds. -/
import Derived.Test.YtmpadjlplgajcaaPriB
namespace Go.Proofs.Ytmpadjlplgajcaa
open Go.RowKit
section
variable {S : S0} {y : Lay} {W : World}
theorem EB_10 {be k0 k1 k2 k3 k4 k5 k6 k7 k8 k9 j : Int} : (EB S y be k0 k1 k2 k3 k4 k5 k6 k7 k8 k9).upd 10 j = EB S y be j k1 k2 k3 k4 k5 k6 k7 k8 k9 := EP_upd (by simp)
theorem EB_11 {be k0 k1 k2 k3 k4 k5 k6 k7 k8 k9 j : Int} : (EB S y be k0 k1 k2 k3 k4 k5 k6 k7 k8 k9).upd 11 j = EB S y be k0 j k2 k3 k4 k5 k6 k7 k8 k9 := EP_upd (by simp)
theorem EB_12 {be k0 k1 k2 k3 k4 k5 k6 k7 k8 k9 j : Int} : (EB S y be k0 k1 k2 k3 k4 k5 k6 k7 k8 k9).upd 12 j = EB S y be k0 k1 j k3 k4 k5 k6 k7 k8 k9 := EP_upd (by simp)
theorem EB_13 {be k0 k1 k2 k3 k4 k5 k6 k7 k8 k9 j : Int} : (EB S y be k0 k1 k2 k3 k4 k5 k6 k7 k8 k9).upd 13 j = EB S y be k0 k1 k2 j k4 k5 k6 k7 k8 k9 := EP_upd (by simp)
theorem EB_14 {be k0 k1 k2 k3 k4 k5 k6 k7 k8 k9 j : Int} : (EB S y be k0 k1 k2 k3 k4 k5 k6 k7 k8 k9).upd 14 j = EB S y be k0 k1 k2 k3 j k5 k6 k7 k8 k9 := EP_upd (by simp)
theorem EB_15 {be k0 k1 k2 k3 k4 k5 k6 k7 k8 k9 j : Int} : (EB S y be k0 k1 k2 k3 k4 k5 k6 k7 k8 k9).upd 15 j = EB S y be k0 k1 k2 k3 k4 j k6 k7 k8 k9 := EP_upd (by simp)
theorem EB_16 {be k0 k1 k2 k3 k4 k5 k6 k7 k8 k9 j : Int} : (EB S y be k0 k1 k2 k3 k4 k5 k6 k7 k8 k9).upd 16 j = EB S y be k0 k1 k2 k3 k4 k5 j k7 k8 k9 := EP_upd (by simp)
theorem EB_17 {be k0 k1 k2 k3 k4 k5 k6 k7 k8 k9 j : Int} : (EB S y be k0 k1 k2 k3 k4 k5 k6 k7 k8 k9).upd 17 j = EB S y be k0 k1 k2 k3 k4 k5 k6 j k8 k9 := EP_upd (by simp)
theorem EB_18 {be k0 k1 k2 k3 k4 k5 k6 k7 k8 k9 j : Int} : (EB S y be k0 k1 k2 k3 k4 k5 k6 k7 k8 k9).upd 18 j = EB S y be k0 k1 k2 k3 k4 k5 k6 k7 j k9 := EP_upd (by simp)
theorem EB_19 {be k0 k1 k2 k3 k4 k5 k6 k7 k8 k9 j : Int} : (EB S y be k0 k1 k2 k3 k4 k5 k6 k7 k8 k9).upd 19 j = EB S y be k0 k1 k2 k3 k4 k5 k6 k7 k8 j := EP_upd (by simp)
theorem ebl (hL : Lies S y W) {be k0 k1 k2 k3 k4 k5 k6 k7 k8 k9 : Int} : ∀ L ∈ [L0], LOk (EB S y be k0 k1 k2 k3 k4 k5 k6 k7 k8 k9) W L := lols hL rfl
/-- The numbers are in range. -/
structure Rng (S : S0) : Prop where
  n3 : 3 ≤ S.n
  n64 : S.n ≤ 64
  lo : InM S.lo
  hi : InM S.hi
  X : ∀ k, InM (S.X k)
  Y : ∀ k, InM (S.Y k)
theorem eb_pcn (h : Rng S) {be k0 k1 k2 k3 k4 k5 k6 k7 k8 k9 : Int} : pcn.Ok (EB S y be k0 k1 k2 k3 k4 k5 k6 k7 k8 k9) := pcn_ok h.n3 h.n64 h.lo h.hi
def prismV : SV := .agg [.ssl L0, i8 (.at 0), i8 (.at 1)]
def A1 (ex : PC) : LAnn := ⟨909666, 10, [(8, .one (i8 (.at 10))), (7, .one (i8 (.at 8))), (6, .one (.ssl L0)), (4, .one (i8 (.lit 0))), (0, .one (.ssl L0)), (1, .one (.raw (.func (.func 62) #[] #[])))], [], [], ex, [pcn ++ kIn 10 ++ inR (.at 10)], 2, [], [], []⟩
theorem in_yes_tree : treeL Try.prog [] [L0] [A1 (kOut 10)] pcn 300 20 52 [prismV] = .ret (.one (.bool (.lit true))) := by kernel_rfl
/-- The argument. -/
def PV (S : S0) (y : Lay) : Value := .agg #[.slice y.p S.n.toNat y.c, .int .i64 S.lo, .int .i64 S.hi]
theorem in_yes (hL : Lies S y W) (h : Rng S) : Calls Try.prog 52 #[PV S y] W fun e w' => e = .returned (.bool true) ∧ Below W.heap.size W w' := by
  have hF : Fam (Bs Try.prog W [] [L0]) [A1 (kOut 10)] (EB S y 0 S.n 0 0 0 0 0 0 0 0 0) := by
    refine ⟨⟨.nil, ebl hL⟩, hL.nn, ⟨kOut_ok (i := 10) (Int.le_refl _), .nil⟩, fun j h0 h1 => ?_⟩
    have e : (EB S y 0 S.n 0 0 0 0 0 0 0 0 0).upd (A1 (kOut 10)).i j = EB S y 0 j 0 0 0 0 0 0 0 0 0 := EB_10
    rw [e]
    exact ⟨⟨⟨_, List.mem_singleton.2 rfl, ((eb_pcn h).app (kIn_ok (i := 10) h0 h1 h.n64)).app (inR_ok (k := .at 10) (h.X j) (h.Y j))⟩, .nil⟩, ⟨.nil, ebl hL⟩⟩
  exact tree_funL hF (eb_pcn h) wide in_yes_tree (by kernel_rfl) rfl (u := .bool true) (All.ret rfl)
/-! convex -/
theorem bf_in (h : Rng S) (k c : Int) : InM (S.bf k c) := by
  unfold S0.bf
  repeat' split
  all_goals first | exact h.X _ | exact h.Y _
theorem bf_succ {k : Int} (h : 0 ≤ k) : S.bf (k + 1) 0 = S.X k ∧ S.bf (k + 1) 1 = S.Y k ∧ S.bf (k + 1) 2 = S.X (S.nx k) ∧ S.bf (k + 1) 3 = S.Y (S.nx k) := by
  have e : ¬ k + 1 ≤ 0 := by omega
  have e1 : k + 1 - 1 = k := by omega
  unfold S0.bf
  simp [e, e1]
theorem rc_succ {k : Int} (h : 0 ≤ k) : S.rc (k + 1).toNat = S.rc k.toNat + (if S.bf k 1 < S.bf k 3 then 0 else if S.Y k < S.Y (S.nx k) then 1 else 0) := by
  have e : (k + 1).toNat = k.toNat + 1 := by omega
  have e1 : ((k.toNat : Nat) : Int) = k := by omega
  rw [e]
  simp only [S0.rc, e1]
theorem rc_bd : ∀ k : Nat, 0 ≤ S.rc k ∧ S.rc k ≤ k
  | 0 => ⟨Int.le_refl _, Int.le_refl _⟩
  | k + 1 => by
    have := rc_bd k
    simp only [S0.rc]
    repeat' split
    all_goals omega
def bfE (k : IE) (c : Int) : IE := .ap 9 k (.lit c)
def tnE (k : IE) : IE := .ap 12 k (.lit 0)
def conTurn : Con := [(67, [.agg [i8 (bfE (.at 11) 0), i8 (bfE (.at 11) 1)], .agg [i8 (bfE (.at 11) 2), i8 (bfE (.at 11) 3)], ptS (nxt 11)], .one (i8 (tnE (.at 11))))]
def st0 : PC := [(.eq (bfE (.lit 0) 0) (.ap 0 (.sub (.at 8) (.lit 1)) (.lit 0)), true), (.eq (bfE (.lit 0) 1) (.ap 0 (.sub (.at 8) (.lit 1)) (.lit 1)), true), (.eq (bfE (.lit 0) 2) (.ap 0 (.lit 0) (.lit 0)), true), (.eq (bfE (.lit 0) 3) (.ap 0 (.lit 0) (.lit 1)), true), (.eq (bfE (.lit 0) 4) (.lit 0), true)]
def nx1 : IE := .add (.at 11) (.lit 1)
def stepF : PC := [(.eq (bfE nx1 0) (.ap 0 (.at 11) (.lit 0)), true), (.eq (bfE nx1 1) (.ap 0 (.at 11) (.lit 1)), true), (.eq (bfE nx1 2) (.ap 0 (nxt 11) (.lit 0)), true), (.eq (bfE nx1 3) (.ap 0 (nxt 11) (.lit 1)), true)]
def ris : BE := .lt (bfE (.at 11) 1) (bfE (.at 11) 3)
def ris' : BE := .lt (.ap 0 (.at 11) (.lit 1)) (.ap 0 (nxt 11) (.lit 1))
def rnd : PC := pcn ++ kIn 11 ++ remF (.add (.at 11) (.lit 1)) ++ stepF ++ [(.eq (tnE (.at 11)) (.lit 1), true)]
def same4 : PC := [(.eq (bfE nx1 4) (bfE (.at 11) 4), true)]
def more4 : PC := [(.eq (bfE nx1 4) (.add (bfE (.at 11) 4) (.lit 1)), true)] ++ rngE (bfE (.at 11) 4) 0 64
def rA : PC := rnd ++ [(ris, true)] ++ same4
def rB : PC := rnd ++ [(ris, false), (ris', false)] ++ same4
def rC : PC := rnd ++ [(ris, false), (ris', true)] ++ more4
def A2 (ex : PC) : LAnn := ⟨401310, 11, [(7, .one (i8 (.at 11))), (6, .one (i8 (.at 8))), (5, .one (.ssl L0)), (0, .one (.nm 6)), (1, .one (.ptr 3 0))],
  [(1, ⟨3, [i8 (bfE (.at 11) 4)], 0, false, []⟩), (2, ⟨72, [i8 (bfE (.at 11) 0), i8 (bfE (.at 11) 1), i8 (bfE (.at 11) 2), i8 (bfE (.at 11) 3)], 0, false, []⟩)], [0, 3, 4, 5, 6], ex, [rA, rB, rC], 7, [], [], []⟩
def exT : PC := kIn 11 ++ remF (.add (.at 11) (.lit 1)) ++ [(.eq (tnE (.at 11)) (.lit 1), false)]
theorem cv_yes_tree : treeL Try.prog conTurn [L0] [A2 (kOut 11)] (pcn ++ st0) 300 20 53 [.one (.ssl L0)] = .ret (.one (.bool (.eq (.ap 9 (.at 11) (.lit 4)) (.lit 1)))) := by kernel_rfl
theorem cv_no_tree : treeL Try.prog conTurn [L0] [A2 exT] (pcn ++ st0) 300 20 53 [.one (.ssl L0)] = .ret (.one (.bool (.lit false))) := by kernel_rfl
theorem conTurn_ok (h : Rng S) {be k0 k1 k2 k3 k4 k5 k6 k7 k8 k9 : Int} : ConOkW Try.prog (EB S y be k0 k1 k2 k3 k4 k5 k6 k7 k8 k9) W conTurn :=
  .cons (fun _ w _ => orient_at (a := S.bf k1 0) (b := S.bf k1 1) (c := S.bf k1 2) (d := S.bf k1 3) (e := S.X (S.nx k1)) (f := S.Y (S.nx k1)) (bf_in h _ _) (bf_in h _ _) (bf_in h _ _) (bf_in h _ _) (h.X _) (h.Y _) w) .nil
theorem st0_ok {be k0 k1 k2 k3 k4 k5 k6 k7 k8 k9 : Int} : st0.Ok (EB S y be k0 k1 k2 k3 k4 k5 k6 k7 k8 k9) :=
  .cons' (show S.bf 0 0 = S.X (S.n - 1) from rfl) (.cons' (show S.bf 0 1 = S.Y (S.n - 1) from rfl) (.cons' (show S.bf 0 2 = S.X 0 from rfl) (.cons' (show S.bf 0 3 = S.Y 0 from rfl) (.cons' (show S.rc 0 = 0 from rfl) .nil))))
theorem sgn_one {t : Int} (h : 0 < t) : sgn t = 1 := by unfold sgn; rw [if_neg (by omega), if_pos h]
theorem rnd_ok (h : Rng S) {be k0 j k2 k3 k4 k5 k6 k7 k8 k9 : Int} (h0 : 0 ≤ j) (h1 : j < S.n) (ht : 0 < S.tn j) : rnd.Ok (EB S y be k0 j k2 k3 k4 k5 k6 k7 k8 k9) := by
  obtain ⟨b0, b1, b2, b3⟩ := bf_succ (S := S) h0
  refine ((((eb_pcn h).app (kIn_ok (i := 11) h0 h1 h.n64)).app (remF_ok (e := .add (.at 11) (.lit 1)) ?_ ?_)).app ?_).app (.cons' (show sgn (S.tn j) = 1 from sgn_one ht) .nil)
  · show 0 ≤ j + 1; omega
  · show 0 < S.n; have := h.n3; omega
  · exact .cons' b0 (.cons' b1 (.cons' b2 (.cons' b3 .nil)))
theorem famT (hL : Lies S y W) (h : Rng S) {k : Int} {ex : PC} (hk : 0 ≤ k) (hkn : k ≤ S.n) (ht : ∀ j, 0 ≤ j → j < k → 0 < S.tn j) (hex : ex.Ok (EB S y 0 0 k 0 0 0 0 0 0 0 0)) : Fam (Bs Try.prog W conTurn [L0]) [A2 ex] (EB S y 0 0 k 0 0 0 0 0 0 0 0) := by
  refine ⟨⟨conTurn_ok h, ebl hL⟩, hk, ⟨hex, .nil⟩, fun j h0 h1 => ?_⟩
  have e : (EB S y 0 0 k 0 0 0 0 0 0 0 0).upd (A2 ex).i j = EB S y 0 0 j 0 0 0 0 0 0 0 0 := EB_11
  rw [e]
  have h1 : j < k := h1
  refine ⟨⟨?_, .nil⟩, ⟨conTurn_ok h, ebl hL⟩⟩
  have hr := rnd_ok (y := y) (be := 0) (k0 := 0) (k2 := 0) (k3 := 0) (k4 := 0) (k5 := 0) (k6 := 0) (k7 := 0) (k8 := 0) (k9 := 0) h h0 (by omega) (ht j h0 h1)
  have hs := rc_succ (S := S) h0
  by_cases c1 : S.bf j 1 < S.bf j 3
  · rw [if_pos c1, Int.add_zero] at hs
    have q1 : PC.Ok (EB S y 0 0 j 0 0 0 0 0 0 0 0) [(ris, true)] := .cons' c1 .nil
    have q2 : PC.Ok (EB S y 0 0 j 0 0 0 0 0 0 0 0) same4 := .cons' hs .nil
    exact ⟨rA, by simp [A2], (hr.app q1).app q2⟩
  · rw [if_neg c1] at hs
    have c1' := Int.not_lt.1 c1
    by_cases c2 : S.Y j < S.Y (S.nx j)
    · rw [if_pos c2] at hs
      have hb := rc_bd (S := S) j.toNat
      have q1 : PC.Ok (EB S y 0 0 j 0 0 0 0 0 0 0 0) [(ris, false), (ris', true)] := .cons' c1' (.cons' c2 .nil)
      have q0 : PC.Ok (EB S y 0 0 j 0 0 0 0 0 0 0 0) [(.eq (bfE nx1 4) (.add (bfE (.at 11) 4) (.lit 1)), true)] := .cons' hs .nil
      have q2 : PC.Ok (EB S y 0 0 j 0 0 0 0 0 0 0 0) more4 := q0.app (rngE_ok (e := bfE (.at 11) 4) (show 0 ≤ S.rc j.toNat from hb.1) (show S.rc j.toNat ≤ 64 from by have := h.n64; omega))
      exact ⟨rC, by simp [A2], (hr.app q1).app q2⟩
    · rw [if_neg c2, Int.add_zero] at hs
      have c2' := Int.not_lt.1 c2
      have q1 : PC.Ok (EB S y 0 0 j 0 0 0 0 0 0 0 0) [(ris, false), (ris', false)] := .cons' c1' (.cons' c2' .nil)
      have q2 : PC.Ok (EB S y 0 0 j 0 0 0 0 0 0 0 0) same4 := .cons' hs .nil
      exact ⟨rB, by simp [A2], (hr.app q1).app q2⟩
def LV (S : S0) (y : Lay) : Value := .slice y.p S.n.toNat y.c
/-- All corners turn to the left; the way goes around once. -/
def Cv (S : S0) : Prop := (∀ j, 0 ≤ j → j < S.n → 0 < S.tn j) ∧ S.rc S.n.toNat = 1
theorem cv_all (hL : Lies S y W) (h : Rng S) (ht : ∀ j, 0 ≤ j → j < S.n → 0 < S.tn j) : Calls Try.prog 53 #[LV S y] W fun e w' => e = .returned (.bool (S.rc S.n.toNat == 1)) ∧ Below W.heap.size W w' :=
  tree_funL (famT hL h (ex := kOut 11) hL.nn (Int.le_refl _) ht (kOut_ok (i := 11) (Int.le_refl _))) ((eb_pcn h).app st0_ok) wide cv_yes_tree (by kernel_rfl) rfl (u := .bool (S.rc S.n.toNat == 1)) (All.ret rfl)
theorem cv_some (hL : Lies S y W) (h : Rng S) {k : Int} (hk : 0 ≤ k) (hkn : k < S.n) (ht : ∀ j, 0 ≤ j → j < k → 0 < S.tn j) (hn : ¬ 0 < S.tn k) : Calls Try.prog 53 #[LV S y] W fun e w' => e = .returned (.bool false) ∧ Below W.heap.size W w' := by
  refine tree_funL (famT hL h (ex := exT) hk (by omega) ht (((kIn_ok (i := 11) hk hkn h.n64).app (remF_ok (e := .add (.at 11) (.lit 1)) ?_ ?_)).app (.cons' ?_ .nil))) ((eb_pcn h).app st0_ok) wide cv_no_tree (by kernel_rfl) rfl (u := .bool false) (All.ret rfl)
  · show 0 ≤ k + 1; omega
  · show 0 < S.n; omega
  · show sgn (S.tn k) ≠ 1
    intro q; exact hn (sgn_pos q)
theorem cv_yes (hL : Lies S y W) (h : Rng S) (hc : Cv S) : Calls Try.prog 53 #[LV S y] W fun e w' => e = .returned (.bool true) ∧ Below W.heap.size W w' := by
  have := cv_all hL h hc.1
  rw [hc.2] at this
  exact this
theorem cv_no (hL : Lies S y W) (h : Rng S) (hc : ¬ Cv S) : Calls Try.prog 53 #[LV S y] W fun e w' => e = .returned (.bool false) ∧ Below W.heap.size W w' := by
  obtain ⟨k, h0, h1, h2, h3⟩ := first_of (fun j => 0 < S.tn j) S.n hL.nn
  rcases h3 with rfl | ⟨h3, h4⟩
  · have := cv_all hL h h2
    have e : (S.rc S.n.toNat == 1) = false := by
      have : S.rc S.n.toNat ≠ 1 := fun q => hc ⟨h2, q⟩
      simpa using this
    rw [e] at this
    exact this
  · exact cv_some hL h h0 h3 h2 h4
end
end Go.Proofs.Ytmpadjlplgajcaa
