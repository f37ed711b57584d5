/- Over the base: Bounds. -/
import Derived.Test.YtmpadjlplgajcaaPriC
namespace Go.Proofs.Ytmpadjlplgajcaa
open Go.RowKit
section
variable {S : S0} {y : Lay} {W : World}
def A3 : LAnn := ⟨20210, 10, [(8, .one (i8 (.at 10))), (7, .one (i8 (.at 8))), (6, .one (.ssl L0)), (3, .one (.raw (.func (.func 71) #[] #[]))), (2, .one (.bool (.lit false))), (0, .one (.ssl L0))], [], [], kOut 10, [pcn ++ kIn 10 ++ inR (.at 10)], 3, [], [], []⟩
def dif (b : Bool) : PC := [(.eq (.ap 0 (.at 12) (.lit 0)) (.ap 0 (nxt 12) (.lit 0)), b)]
def difY : PC := [(.eq (.ap 0 (.at 12) (.lit 1)) (.ap 0 (nxt 12) (.lit 1)), false)]
def kr (i : Nat) : PC := pcn ++ kIn i ++ remF (.add (.at i) (.lit 1))
def dA : PC := kr 12 ++ dif false
def dB : PC := kr 12 ++ dif true ++ difY
def A4 : LAnn := ⟨908228, 12, [(7, .one (i8 (.at 12))), (6, .one (i8 (.at 8))), (5, .one (.ssl L0)), (0, .one (.nm 6)), (1, .one (.ptr 3 0))], [], [2, 3, 4, 5, 6], kOut 12, [dA, dB], 7, [], [], []⟩
def bdE (k : IE) (c : Int) : IE := .ap 13 k (.lit c)
def nx3 : IE := .add (.at 13) (.lit 1)
def bd0 : PC := [(.lt (.lit 0) (.at 8), true), (.eq (bdE (.lit 0) 0) (.ap 0 (.lit 0) (.lit 0)), true), (.eq (bdE (.lit 0) 1) (.ap 0 (.lit 0) (.lit 1)), true), (.eq (bdE (.lit 0) 2) (.ap 0 (.lit 0) (.lit 0)), true), (.eq (bdE (.lit 0) 3) (.ap 0 (.lit 0) (.lit 1)), true)]
def bdS : PC := [(.eq (bdE nx3 0) (.mn (bdE (.at 13) 0) (.ap 0 (.at 13) (.lit 0))), true), (.eq (bdE nx3 1) (.mn (bdE (.at 13) 1) (.ap 0 (.at 13) (.lit 1))), true), (.eq (bdE nx3 2) (.mx (bdE (.at 13) 2) (.ap 0 (.at 13) (.lit 0))), true), (.eq (bdE nx3 3) (.mx (bdE (.at 13) 3) (.ap 0 (.at 13) (.lit 1))), true)]
def A5 : LAnn := ⟨812472, 13, [(25, .one (i8 (.at 13))), (24, .one (i8 (.at 8))), (23, .one (.ssl L0)), (7, .one (.ptr 8 0)), (6, .one (.ptr 7 0)), (3, .one (.ptr 1 0)), (2, .one (.ptr 0 0)), (0, .one (.ssl L0))],
  [(7, ⟨60, [i8 (bdE (.at 13) 0), i8 (bdE (.at 13) 1)], 0, false, []⟩), (8, ⟨60, [i8 (bdE (.at 13) 2), i8 (bdE (.at 13) 3)], 0, false, []⟩)], [0, 1], kOut 13, [pcn ++ kIn 13 ++ bdS], 9, [], [], []⟩
theorem bd_tree : treeL Try.prog [] [L0] [A3, A4, A5] (pcn ++ bd0) 300 20 37 [.one (.ssl L0)] = .ret (.tup [⟨true, [i8 (bdE (.at 13) 0), i8 (bdE (.at 13) 1)]⟩, ⟨true, [i8 (bdE (.at 13) 2), i8 (bdE (.at 13) 3)]⟩, ⟨false, [i8 (.lit 0)]⟩]) := by kernel_rfl
theorem bd_succ {c k : Int} (h : 0 ≤ k) : S.bd c (k + 1).toNat = if c = 0 then mnI (S.bd c k.toNat) (S.X k) else if c = 1 then mnI (S.bd c k.toNat) (S.Y k) else if c = 2 then mxI (S.bd c k.toNat) (S.X k) else mxI (S.bd c k.toNat) (S.Y k) := by
  have e : (k + 1).toNat = k.toNat + 1 := by omega
  have e1 : ((k.toNat : Nat) : Int) = k := by omega
  rw [e]
  simp only [S0.bd, e1]
theorem bf_cur {k : Int} (h0 : 0 ≤ k) (h1 : k < S.n) : S.bf k 2 = S.X k ∧ S.bf k 3 = S.Y k := by
  by_cases e : k = 0
  · subst e; exact ⟨rfl, rfl⟩
  · have e1 : ¬ k ≤ 0 := by omega
    have e2 : S.nx (k - 1) = k := by
      unfold S0.nx
      rw [show k - 1 + 1 = k by omega, Int.tmod_eq_of_lt h0 h1]
    unfold S0.bf
    simp [e1, e2]
theorem tn_dif {k : Int} (h0 : 0 ≤ k) (h1 : k < S.n) (ht : 0 < S.tn k) : ¬ (S.X k = S.X (S.nx k) ∧ S.Y k = S.Y (S.nx k)) := by
  rintro ⟨ex, ey⟩
  unfold S0.tn at ht
  rw [(bf_cur h0 h1).1, (bf_cur h0 h1).2, ← ex, ← ey] at ht
  unfold crs at ht
  rw [Int.mul_comm (S.X k - S.bf k 0)] at ht
  omega
theorem fam5 {j0 j2 : Int} (hL : Lies S y W) (h : Rng S) : Fam (Bs Try.prog W [] [L0]) [A5] (EB S y 0 j0 0 j2 S.n 0 0 0 0 0 0) := by
  refine ⟨⟨.nil, ebl hL⟩, hL.nn, ⟨kOut_ok (i := 13) (Int.le_refl _), .nil⟩, fun j h0 h1 => ?_⟩
  have e : (EB S y 0 j0 0 j2 S.n 0 0 0 0 0 0).upd A5.i j = EB S y 0 j0 0 j2 j 0 0 0 0 0 0 := EB_13
  rw [e]
  have q : PC.Ok (EB S y 0 j0 0 j2 j 0 0 0 0 0 0) bdS := .cons' (bd_succ (c := 0) h0) (.cons' (bd_succ (c := 1) h0) (.cons' (bd_succ (c := 2) h0) (.cons' (bd_succ (c := 3) h0) .nil)))
  exact ⟨⟨⟨_, List.mem_singleton.2 rfl, ((eb_pcn h).app (kIn_ok (i := 13) h0 h1 h.n64)).app q⟩, .nil⟩, ⟨.nil, ebl hL⟩⟩
theorem kr_ok (h : Rng S) {i : Nat} {be k0 k1 k2 k3 k4 k5 k6 k7 k8 k9 : Int} (h0 : 0 ≤ (EB S y be k0 k1 k2 k3 k4 k5 k6 k7 k8 k9).v i) (h1 : (EB S y be k0 k1 k2 k3 k4 k5 k6 k7 k8 k9).v i < S.n) : (kr i).Ok (EB S y be k0 k1 k2 k3 k4 k5 k6 k7 k8 k9) :=
  ((eb_pcn h).app (kIn_ok h0 h1 h.n64)).app (remF_ok (e := .add (.at i) (.lit 1)) (by show 0 ≤ (EB S y be k0 k1 k2 k3 k4 k5 k6 k7 k8 k9).v i + 1; omega) (by show 0 < S.n; have := h.n3; omega))
theorem fam4 {j0 : Int} (hL : Lies S y W) (h : Rng S) (ht : ∀ j, 0 ≤ j → j < S.n → 0 < S.tn j) : Fam (Bs Try.prog W [] [L0]) [A4, A5] (EB S y 0 j0 0 S.n S.n 0 0 0 0 0 0) := by
  refine ⟨fam5 hL h, hL.nn, ⟨kOut_ok (i := 12) (Int.le_refl _), .nil⟩, fun j h0 h1 => ?_⟩
  have e : (EB S y 0 j0 0 S.n S.n 0 0 0 0 0 0).upd A4.i j = EB S y 0 j0 0 j S.n 0 0 0 0 0 0 := EB_12
  rw [e]
  have h1 : j < S.n := h1
  refine ⟨⟨?_, .nil⟩, fam5 hL h⟩
  have hk : PC.Ok (EB S y 0 j0 0 j S.n 0 0 0 0 0 0) (kr 12) := kr_ok h h0 h1
  have hd := tn_dif h0 h1 (ht j h0 h1)
  by_cases c : S.X j = S.X (S.nx j)
  · have c2 : S.Y j ≠ S.Y (S.nx j) := fun q => hd ⟨c, q⟩
    have q1 : PC.Ok (EB S y 0 j0 0 j S.n 0 0 0 0 0 0) (dif true) := .cons' c .nil
    have q2 : PC.Ok (EB S y 0 j0 0 j S.n 0 0 0 0 0 0) difY := .cons' c2 .nil
    exact ⟨dB, by simp [A4], (hk.app q1).app q2⟩
  · have q1 : PC.Ok (EB S y 0 j0 0 j S.n 0 0 0 0 0 0) (dif false) := .cons' c .nil
    exact ⟨dA, by simp [A4], hk.app q1⟩
theorem fam3 (hL : Lies S y W) (h : Rng S) (ht : ∀ j, 0 ≤ j → j < S.n → 0 < S.tn j) : Fam (Bs Try.prog W [] [L0]) [A3, A4, A5] (EB S y 0 S.n 0 S.n S.n 0 0 0 0 0 0) := by
  refine ⟨fam4 hL h ht, hL.nn, ⟨kOut_ok (i := 10) (Int.le_refl _), .nil⟩, fun j h0 h1 => ?_⟩
  have e : (EB S y 0 S.n 0 S.n S.n 0 0 0 0 0 0).upd A3.i j = EB S y 0 j 0 S.n S.n 0 0 0 0 0 0 := EB_10
  rw [e]
  exact ⟨⟨⟨_, List.mem_singleton.2 rfl, ((eb_pcn h).app (kIn_ok (i := 10) h0 h1 h.n64)).app (inR_ok (k := .at 10) (h.X j) (h.Y j))⟩, .nil⟩, fam4 hL h ht⟩
theorem bd0_ok (h : Rng S) {be k0 k1 k2 k3 k4 k5 k6 k7 k8 k9 : Int} : bd0.Ok (EB S y be k0 k1 k2 k3 k4 k5 k6 k7 k8 k9) :=
  .cons' (show 0 < S.n by have := h.n3; omega) (.cons' (show S.bd 0 0 = S.X 0 from rfl) (.cons' (show S.bd 1 0 = S.Y 0 from rfl) (.cons' (show S.bd 2 0 = S.X 0 from rfl) (.cons' (show S.bd 3 0 = S.Y 0 from rfl) .nil))))
def lx (S : S0) : Int := S.bd 0 S.n.toNat
def ly (S : S0) : Int := S.bd 1 S.n.toNat
def mxX (S : S0) : Int := S.bd 2 S.n.toNat
def mxY (S : S0) : Int := S.bd 3 S.n.toNat
theorem bounds_of (hL : Lies S y W) (h : Rng S) (ht : ∀ j, 0 ≤ j → j < S.n → 0 < S.tn j) : Calls Try.prog 37 #[LV S y] W fun e w' => e = .returned (.tuple #[.agg #[.int .i64 (lx S), .int .i64 (ly S)], .agg #[.int .i64 (mxX S), .int .i64 (mxY S)], .int .i64 0]) ∧ Below W.heap.size W w' :=
  tree_funL (fam3 hL h ht) ((eb_pcn h).app (bd0_ok h)) wide bd_tree (by kernel_rfl) rfl (u := .tuple #[.agg #[.int .i64 (lx S), .int .i64 (ly S)], .agg #[.int .i64 (mxX S), .int .i64 (mxY S)], .int .i64 0]) (All.ret rfl)
/-- What the bounds are. -/
theorem lx_le : ∀ (k : Nat) (j : Nat), j < k → S.bd 0 k ≤ S.X j ∧ S.bd 1 k ≤ S.Y j ∧ S.X j ≤ S.bd 2 k ∧ S.Y j ≤ S.bd 3 k
  | 0, j, h => by omega
  | k + 1, j, h => by
    have m0 := mnI_spec (S.bd 0 k) (S.X k)
    have m1 := mnI_spec (S.bd 1 k) (S.Y k)
    have m2 := mxI_spec (S.bd 2 k) (S.X k)
    have m3 := mxI_spec (S.bd 3 k) (S.Y k)
    have e0 : S.bd 0 (k + 1) = mnI (S.bd 0 k) (S.X k) := rfl
    have e1 : S.bd 1 (k + 1) = mnI (S.bd 1 k) (S.Y k) := rfl
    have e2 : S.bd 2 (k + 1) = mxI (S.bd 2 k) (S.X k) := rfl
    have e3 : S.bd 3 (k + 1) = mxI (S.bd 3 k) (S.Y k) := rfl
    rw [e0, e1, e2, e3]
    by_cases hj : j < k
    · obtain ⟨a, b, c, d⟩ := lx_le k j hj
      omega
    · have : j = k := by omega
      subst this
      omega
theorem lx_at : ∀ (k : Nat), ((∃ j : Nat, j ≤ k ∧ (j < k ∨ j = 0) ∧ S.bd 0 k = S.X j) ∧ (∃ j : Nat, j ≤ k ∧ (j < k ∨ j = 0) ∧ S.bd 1 k = S.Y j)) ∧ (∃ j : Nat, j ≤ k ∧ (j < k ∨ j = 0) ∧ S.bd 2 k = S.X j) ∧ (∃ j : Nat, j ≤ k ∧ (j < k ∨ j = 0) ∧ S.bd 3 k = S.Y j)
  | 0 => ⟨⟨⟨0, Nat.le_refl _, .inr rfl, rfl⟩, ⟨0, Nat.le_refl _, .inr rfl, rfl⟩⟩, ⟨0, Nat.le_refl _, .inr rfl, rfl⟩, ⟨0, Nat.le_refl _, .inr rfl, rfl⟩⟩
  | k + 1 => by
    obtain ⟨⟨⟨a, a1, a2, a3⟩, ⟨b, b1, b2, b3⟩⟩, ⟨c, c1, c2, c3⟩, ⟨d, d1, d2, d3⟩⟩ := lx_at k
    have e0 : S.bd 0 (k + 1) = mnI (S.bd 0 k) (S.X k) := rfl
    have e1 : S.bd 1 (k + 1) = mnI (S.bd 1 k) (S.Y k) := rfl
    have e2 : S.bd 2 (k + 1) = mxI (S.bd 2 k) (S.X k) := rfl
    have e3 : S.bd 3 (k + 1) = mxI (S.bd 3 k) (S.Y k) := rfl
    rw [e0, e1, e2, e3]
    refine ⟨⟨?_, ?_⟩, ?_, ?_⟩
    · rcases (mnI_spec (S.bd 0 k) (S.X k)).2.2 with q | q
      · exact ⟨a, by omega, by omega, q.trans a3⟩
      · exact ⟨k, by omega, by omega, q⟩
    · rcases (mnI_spec (S.bd 1 k) (S.Y k)).2.2 with q | q
      · exact ⟨b, by omega, by omega, q.trans b3⟩
      · exact ⟨k, by omega, by omega, q⟩
    · rcases (mxI_spec (S.bd 2 k) (S.X k)).2.2 with q | q
      · exact ⟨c, by omega, by omega, q.trans c3⟩
      · exact ⟨k, by omega, by omega, q⟩
    · rcases (mxI_spec (S.bd 3 k) (S.Y k)).2.2 with q | q
      · exact ⟨d, by omega, by omega, q.trans d3⟩
      · exact ⟨k, by omega, by omega, q⟩
end
end Go.Proofs.Ytmpadjlplgajcaa
