/- Over the base and a box: the plain mathematics of sides; what is not in range; what is no box. -/
import Derived.Test.YtmpadjlplgajcaaPriF
namespace Go.Proofs.Ytmpadjlplgajcaa
open Go.RowKit
theorem ext {ax ay bx by_ dx dy ex ey : Int} (hab : 0 < ax * by_ - ay * bx) (had : 0 ≤ ax * dy - ay * dx) (hbd : 0 ≤ bx * dy - by_ * dx) (ha : 0 ≤ ax * ex + ay * ey) (hb : bx * ex + by_ * ey ≤ 0) (hd : 0 < dx * ex + dy * ey) : False := by
  have e : (ax * by_ - ay * bx) * (dx * ex + dy * ey) = (ax * dy - ay * dx) * (bx * ex + by_ * ey) - (bx * dy - by_ * dx) * (ax * ex + ay * ey) := by grind
  have h1 := Int.mul_pos hab hd
  have h2 := Int.mul_nonneg hbd ha
  have h3 : 0 ≤ (ax * dy - ay * dx) * (-(bx * ex + by_ * ey)) := Int.mul_nonneg had (by omega)
  rw [Int.mul_neg] at h3
  omega
section
variable {S : S0} {y : Lay} {W : World}
theorem crs_turn (ax ay bx by_ cx cy : Int) : crs ax ay bx by_ cx cy = (bx - ax) * (cy - by_) - (by_ - ay) * (cx - bx) := by unfold crs; grind
/-- The corner in front of corner k. -/
theorem prev {k : Int} (h0 : 0 ≤ k) (h1 : k < S.n) : ∃ j, 0 ≤ j ∧ j < S.n ∧ S.nx j = k ∧ S.bf k 0 = S.X j ∧ S.bf k 1 = S.Y j := by
  by_cases e : k = 0
  · subst e
    refine ⟨S.n - 1, by omega, by omega, ?_, rfl, rfl⟩
    unfold S0.nx
    rw [show S.n - 1 + 1 = S.n by omega, Int.tmod_self]
  · refine ⟨k - 1, by omega, by omega, ?_, ?_, ?_⟩
    · unfold S0.nx
      rw [show k - 1 + 1 = k by omega, Int.tmod_eq_of_lt h0 h1]
    · unfold S0.bf; simp [show ¬ k ≤ 0 by omega]
    · unfold S0.bf; simp [show ¬ k ≤ 0 by omega]
/-- What no corner of the base reaches beyond cannot be on the left of both edges at the farthest corner. -/
theorem far {k ex ey m : Int} (h0 : 0 ≤ k) (h1 : k < S.n) (ht : 0 < S.tn k) (hmax : ∀ j, 0 ≤ j → j < S.n → S.X j * ex + S.Y j * ey ≤ S.X k * ex + S.Y k * ey) (hs : ∀ j, 0 ≤ j → j < S.n → 0 ≤ S.sd j m) (hd : S.X k * ex + S.Y k * ey < S.cx m * ex + S.cy m * ey) : False := by
  obtain ⟨j, j0, j1, j2, j3, j4⟩ := prev h0 h1
  have hnx : 0 ≤ S.nx k ∧ S.nx k < S.n := ⟨Int.tmod_nonneg _ (by omega), Int.tmod_lt_of_pos _ (by omega)⟩
  unfold S0.tn at ht
  rw [(bf_cur h0 h1).1, (bf_cur h0 h1).2, j3, j4, crs_turn] at ht
  have s1 := hs j j0 j1
  have s2 := hs k h0 h1
  unfold S0.sd at s1 s2
  rw [j2, crs_turn] at s1
  unfold crs at s2
  have m1 := hmax j j0 j1
  have m2 := hmax (S.nx k) hnx.1 hnx.2
  refine ext (ex := ex) (ey := ey) ht s1 s2 ?_ ?_ ?_
  · rw [Int.sub_mul, Int.sub_mul]; omega
  · rw [Int.sub_mul, Int.sub_mul]; omega
  · rw [Int.sub_mul, Int.sub_mul]; omega
theorem pos_mul {a b : Int} (ha : 0 < a) : 0 < a * b ↔ 0 < b := by
  constructor
  · intro h
    rcases Int.lt_or_le 0 b with q | q
    · exact q
    · have := Int.mul_nonneg (Int.le_of_lt ha) (show 0 ≤ -b by omega)
      rw [Int.mul_neg] at this
      omega
  · exact Int.mul_pos ha
theorem se0 (b : Bx S) (j : Int) : 0 < S.se j 0 ↔ S.v < S.Y j := by
  have e : S.se j 0 = (S.p - S.u) * (S.Y j - S.v) := by show (S.p - S.u) * (S.Y j - S.v) - (S.v - S.v) * (S.X j - S.u) = _; grind
  rw [e, pos_mul (by have := b.up; omega)]; omega
theorem se1 (b : Bx S) (j : Int) : 0 < S.se j 1 ↔ S.X j < S.p := by
  have e : S.se j 1 = (S.q - S.v) * (S.p - S.X j) := by show (S.p - S.p) * (S.Y j - S.v) - (S.q - S.v) * (S.X j - S.p) = _; grind
  rw [e, pos_mul (by have := b.vq; omega)]; omega
theorem se2 (b : Bx S) (j : Int) : 0 < S.se j 2 ↔ S.Y j < S.q := by
  have e : S.se j 2 = (S.p - S.u) * (S.q - S.Y j) := by show (S.u - S.p) * (S.Y j - S.q) - (S.q - S.q) * (S.X j - S.p) = _; grind
  rw [e, pos_mul (by have := b.up; omega)]; omega
theorem se3 (b : Bx S) (j : Int) : 0 < S.se j 3 ↔ S.u < S.X j := by
  have e : S.se j 3 = (S.q - S.v) * (S.X j - S.u) := by show (S.u - S.u) * (S.Y j - S.q) - (S.v - S.q) * (S.X j - S.u) = _; grind
  rw [e, pos_mul (by have := b.vq; omega)]; omega
/-- The bounds: none lies beyond, some lies there. -/
theorem bnd (hn : 0 < S.n) : (∀ j, 0 ≤ j → j < S.n → lx S ≤ S.X j ∧ ly S ≤ S.Y j ∧ S.X j ≤ mxX S ∧ S.Y j ≤ mxY S) ∧ (∃ j, 0 ≤ j ∧ j < S.n ∧ lx S = S.X j) ∧ (∃ j, 0 ≤ j ∧ j < S.n ∧ ly S = S.Y j) ∧ (∃ j, 0 ≤ j ∧ j < S.n ∧ mxX S = S.X j) ∧ (∃ j, 0 ≤ j ∧ j < S.n ∧ mxY S = S.Y j) := by
  refine ⟨fun j h0 h1 => ?_, ?_⟩
  · have := lx_le (S := S) S.n.toNat j.toNat (by omega)
    rw [show ((j.toNat : Nat) : Int) = j by omega] at this
    exact this
  · obtain ⟨⟨⟨a, a1, a2, a3⟩, ⟨b, b1, b2, b3⟩⟩, ⟨c, c1, c2, c3⟩, ⟨d, d1, d2, d3⟩⟩ := lx_at (S := S) S.n.toNat
    exact ⟨⟨a, by omega, by omega, a3⟩, ⟨b, by omega, by omega, b3⟩, ⟨c, by omega, by omega, c3⟩, ⟨d, by omega, by omega, d3⟩⟩
/-- Where a side of the rectangle separates, the bounds say so, and the box is not covered. -/
theorem sep_two (h : Rng S) (hc : Cv S) (b : Bx S) (hr : Nr S 0 ∨ Nr S 1 ∨ Nr S 2 ∨ Nr S 3) : sepv S ≠ -1 ∧ ¬ Cov S := by
  have hn : 0 < S.n := by have := h.n3; omega
  obtain ⟨hb, ⟨i0, i1, i2, i3⟩, ⟨j0, j1, j2, j3⟩, ⟨k0, k1, k2, k3⟩, ⟨l0, l1, l2, l3⟩⟩ := bnd (S := S) hn
  have up := b.up
  have vq := b.vq
  have hs : Cov S → ∀ m : Int, (m = 0 ∨ m = 1 ∨ m = 2 ∨ m = 3) → ∀ j, 0 ≤ j → j < S.n → 0 ≤ S.sd j m := fun hcov m hm j a b => by
    have := hcov.2.2 j a b
    unfold Rt at this
    rcases hm with rfl | rfl | rfl | rfl <;> omega
  rcases hr with q | q | q | q
  · have hy : mxY S ≤ S.v := by rw [l3]; have := q l0 l1 l2; rw [se0 b] at this; omega
    refine ⟨by unfold sepv; repeat' split
               all_goals omega, fun hcov => far (ex := 0) (ey := 1) (m := 2) l1 l2 (hc.1 l0 l1 l2) (fun j a c => ?_) (hs hcov 2 (by omega)) ?_⟩
    · have := (hb j a c).2.2.2; omega
    · show S.X l0 * 0 + S.Y l0 * 1 < S.p * 0 + S.q * 1; omega
  · have hx : S.p ≤ lx S := by rw [i3]; have := q i0 i1 i2; rw [se1 b] at this; omega
    refine ⟨by unfold sepv; repeat' split
               all_goals omega, fun hcov => far (ex := -1) (ey := 0) (m := 0) i1 i2 (hc.1 i0 i1 i2) (fun j a c => ?_) (hs hcov 0 (by omega)) ?_⟩
    · have := (hb j a c).1; omega
    · show S.X i0 * -1 + S.Y i0 * 0 < S.u * -1 + S.v * 0; omega
  · have hy : S.q ≤ ly S := by rw [j3]; have := q j0 j1 j2; rw [se2 b] at this; omega
    refine ⟨by unfold sepv; repeat' split
               all_goals omega, fun hcov => far (ex := 0) (ey := -1) (m := 0) j1 j2 (hc.1 j0 j1 j2) (fun j a c => ?_) (hs hcov 0 (by omega)) ?_⟩
    · have := (hb j a c).2.1; omega
    · show S.X j0 * 0 + S.Y j0 * -1 < S.u * 0 + S.v * -1; omega
  · have hx : mxX S ≤ S.u := by rw [k3]; have := q k0 k1 k2; rw [se3 b] at this; omega
    refine ⟨by unfold sepv; repeat' split
               all_goals omega, fun hcov => far (ex := 1) (ey := 0) (m := 1) k1 k2 (hc.1 k0 k1 k2) (fun j a c => ?_) (hs hcov 1 (by omega)) ?_⟩
    · have := (hb j a c).2.2.1; omega
    · show S.X k0 * 1 + S.Y k0 * 0 < S.p * 1 + S.v * 0; omega
/-- Where no side separates, the hulls meet. -/
theorem sep_none (h : Rng S) (b : Bx S) (r0 : ¬ Nr S 0) (r1 : ¬ Nr S 1) (r2 : ¬ Nr S 2) (r3 : ¬ Nr S 3) : S.v < mxY S ∧ lx S < S.p ∧ ly S < S.q ∧ S.u < mxX S ∧ sepv S = -1 := by
  have hn : 0 < S.n := by have := h.n3; omega
  obtain ⟨hb, _⟩ := bnd (S := S) hn
  have key : ∀ r, ¬ Nr S r → ∃ j, 0 ≤ j ∧ j < S.n ∧ 0 < S.se j r := fun r hr => by
    apply Classical.byContradiction
    intro hno
    exact hr fun j a c q => hno ⟨j, a, c, q⟩
  obtain ⟨a, a1, a2, a3⟩ := key 0 r0
  obtain ⟨c, c1, c2, c3⟩ := key 1 r1
  obtain ⟨d, d1, d2, d3⟩ := key 2 r2
  obtain ⟨e, e1, e2, e3⟩ := key 3 r3
  rw [se0 b] at a3
  rw [se1 b] at c3
  rw [se2 b] at d3
  rw [se3 b] at e3
  have q1 := (hb a a1 a2).2.2.2
  have q2 := (hb c c1 c2).1
  have q3 := (hb d d1 d2).2.1
  have q4 := (hb e e1 e2).2.2.1
  refine ⟨by omega, by omega, by omega, by omega, ?_⟩
  unfold sepv
  rw [if_neg (by omega), if_neg (by omega), if_neg (by omega), if_neg (by omega)]
/-- An edge with no corner of the rectangle on its left has one on its right. -/
theorem sep_one (hc : Cv S) (b : Bx S) {k : Int} (h0 : 0 ≤ k) (h1 : k < S.n) (hn : ¬ Lf S k) : ¬ Cov S := by
  intro hcov
  have hr := hcov.2.2 k h0 h1
  have hd := tn_dif h0 h1 (hc.1 k h0 h1)
  have up := b.up
  have vq := b.vq
  unfold Lf at hn
  unfold Rt at hr
  have z0 : S.sd k 0 = 0 := by omega
  have z1 : S.sd k 1 = 0 := by omega
  have z2 : S.sd k 2 = 0 := by omega
  have z0 : (S.X (S.nx k) - S.X k) * (S.v - S.Y k) - (S.Y (S.nx k) - S.Y k) * (S.u - S.X k) = 0 := z0
  have z1 : (S.X (S.nx k) - S.X k) * (S.v - S.Y k) - (S.Y (S.nx k) - S.Y k) * (S.p - S.X k) = 0 := z1
  have z2 : (S.X (S.nx k) - S.X k) * (S.q - S.Y k) - (S.Y (S.nx k) - S.Y k) * (S.p - S.X k) = 0 := z2
  have f1 : (S.Y (S.nx k) - S.Y k) * (S.p - S.u) = 0 := by grind
  have f2 : (S.X (S.nx k) - S.X k) * (S.q - S.v) = 0 := by grind
  rcases Int.mul_eq_zero.1 f1 with q | q
  · rcases Int.mul_eq_zero.1 f2 with q' | q'
    · exact hd ⟨by omega, by omega⟩
    · omega
  · omega
/-! Not in range -/
def pn : PC := rg 8 3 64
def ir1 : PC := pn ++ [(.lt (.at 0) (.lit (-1000000)), true)]
def ir2 : PC := pn ++ [(.lt (.at 0) (.lit (-1000000)), false), (.lt (.lit 1000000) (.at 0), true)]
def ir3 : PC := pn ++ rg 0 (-1000000) 1000000 ++ [(.lt (.at 1) (.lit (-1000000)), true)]
def ir4 : PC := pn ++ rg 0 (-1000000) 1000000 ++ [(.lt (.at 1) (.lit (-1000000)), false), (.lt (.lit 1000000) (.at 1), true)]
def oX1 : PC := [(.lt (.ap 0 (.at 10) (.lit 0)) (.lit (-1000000)), true)]
def oX2 : PC := [(.lt (.ap 0 (.at 10) (.lit 0)) (.lit (-1000000)), false), (.lt (.lit 1000000) (.ap 0 (.at 10) (.lit 0)), true)]
def oY1 : PC := rngE (.ap 0 (.at 10) (.lit 0)) (-1000000) 1000000 ++ [(.lt (.ap 0 (.at 10) (.lit 1)) (.lit (-1000000)), true)]
def oY2 : PC := rngE (.ap 0 (.at 10) (.lit 0)) (-1000000) 1000000 ++ [(.lt (.ap 0 (.at 10) (.lit 1)) (.lit (-1000000)), false), (.lt (.lit 1000000) (.ap 0 (.at 10) (.lit 1)), true)]
def FL : T SV := .ret (.one (.bool (.lit false)))
def FN : T SV := .ret (.one (.bool (.not (.le (.lit 0) (.at 10)))))
theorem in_1 : treeL Try.prog [] [L0] [] ir1 300 20 52 [prismV] = FL := by kernel_rfl
theorem in_2 : treeL Try.prog [] [L0] [] ir2 300 20 52 [prismV] = FL := by kernel_rfl
theorem in_3 : treeL Try.prog [] [L0] [] ir3 300 20 52 [prismV] = FL := by kernel_rfl
theorem in_4 : treeL Try.prog [] [L0] [] ir4 300 20 52 [prismV] = FL := by kernel_rfl
theorem in_5 : treeL Try.prog [] [L0] [A1 (kIn 10 ++ oX1)] pcn 300 20 52 [prismV] = FN := by kernel_rfl
theorem in_6 : treeL Try.prog [] [L0] [A1 (kIn 10 ++ oX2)] pcn 300 20 52 [prismV] = FN := by kernel_rfl
theorem in_7 : treeL Try.prog [] [L0] [A1 (kIn 10 ++ oY1)] pcn 300 20 52 [prismV] = FN := by kernel_rfl
theorem in_8 : treeL Try.prog [] [L0] [A1 (kIn 10 ++ oY2)] pcn 300 20 52 [prismV] = FN := by kernel_rfl
theorem in_no (hL : Lies S y W) (h3 : 3 ≤ S.n) (h64 : S.n ≤ 64) (h0 : ∀ k, (k < 0 ∨ S.n ≤ k) → S.X k = 0 ∧ S.Y k = 0) (hno : ¬ Rng S) : Calls Try.prog 52 #[PV S y] W fun e w' => e = .returned (.bool false) ∧ Below W.heap.size W w' := by
  have hF : Fam (Bs Try.prog W [] [L0]) [] (EB S y 0 0 0 0 0 0 0 0 0 0 0) := ⟨.nil, ebl hL⟩
  have hp : pn.Ok (EB S y 0 0 0 0 0 0 0 0 0 0 0) := rg_ok h3 h64
  by_cases c1 : S.lo < -1000000
  · have q : PC.Ok (EB S y 0 0 0 0 0 0 0 0 0 0 0) ir1 := hp.app (.cons' c1 .nil)
    exact tree_funL hF q wide in_1 (by kernel_rfl) rfl (u := .bool false) (All.ret rfl)
  have c1 := Int.not_lt.1 c1
  by_cases c2 : 1000000 < S.lo
  · have q : PC.Ok (EB S y 0 0 0 0 0 0 0 0 0 0 0) ir2 := hp.app (.cons' c1 (.cons' c2 .nil))
    exact tree_funL hF q wide in_2 (by kernel_rfl) rfl (u := .bool false) (All.ret rfl)
  have c2 := Int.not_lt.1 c2
  by_cases c3 : S.hi < -1000000
  · have q : PC.Ok (EB S y 0 0 0 0 0 0 0 0 0 0 0) ir3 := (hp.app (rg_ok c1 c2)).app (.cons' c3 .nil)
    exact tree_funL hF q wide in_3 (by kernel_rfl) rfl (u := .bool false) (All.ret rfl)
  have c3 := Int.not_lt.1 c3
  by_cases c4 : 1000000 < S.hi
  · have q : PC.Ok (EB S y 0 0 0 0 0 0 0 0 0 0 0) ir4 := (hp.app (rg_ok c1 c2)).app (.cons' c3 (.cons' c4 .nil))
    exact tree_funL hF q wide in_4 (by kernel_rfl) rfl (u := .bool false) (All.ret rfl)
  have c4 := Int.not_lt.1 c4
  obtain ⟨k, k0, k1, k2, k3⟩ := first_of (fun j => InM (S.X j) ∧ InM (S.Y j)) S.n hL.nn
  rcases k3 with rfl | ⟨k3, k4⟩
  · refine absurd ⟨h3, h64, ⟨c1, c2⟩, ⟨c3, c4⟩, fun j => ?_, fun j => ?_⟩ hno
    · by_cases c : 0 ≤ j ∧ j < S.n
      · exact (k2 j c.1 c.2).1
      · rw [(h0 j (by omega)).1]; exact ⟨by decide, by decide⟩
    · by_cases c : 0 ≤ j ∧ j < S.n
      · exact (k2 j c.1 c.2).2
      · rw [(h0 j (by omega)).2]; exact ⟨by decide, by decide⟩
  have pc : ∀ {j : Int}, pcn.Ok (EB S y 0 j 0 0 0 0 0 0 0 0 0) := pcn_ok h3 h64 ⟨c1, c2⟩ ⟨c3, c4⟩
  have fam : ∀ {ex : PC}, ex.Ok (EB S y 0 k 0 0 0 0 0 0 0 0 0) → Fam (Bs Try.prog W [] [L0]) [A1 (kIn 10 ++ ex)] (EB S y 0 k 0 0 0 0 0 0 0 0 0) := fun {ex} hex => by
    refine ⟨⟨.nil, ebl hL⟩, k0, ⟨(kIn_ok (i := 10) k0 k3 h64).app hex, .nil⟩, fun j j0 j1 => ?_⟩
    have e : (EB S y 0 k 0 0 0 0 0 0 0 0 0).upd (A1 (kIn 10 ++ ex)).i j = EB S y 0 j 0 0 0 0 0 0 0 0 0 := EB_10
    rw [e]
    have j1 : j < k := j1
    exact ⟨⟨⟨_, List.mem_singleton.2 rfl, (pc.app (kIn_ok (i := 10) j0 (show j < S.n by omega) h64)).app (inR_ok (k := .at 10) (k2 j j0 j1).1 (k2 j j0 j1).2)⟩, .nil⟩, ⟨.nil, ebl hL⟩⟩
  have fin : FN.All (EB S y 0 k 0 0 0 0 0 0 0 0 0) (· = .bool false) := All.ret (by show Value.bool (!decide (0 ≤ k)) = _; simp [k0])
  by_cases d1 : S.X k < -1000000
  · have q : PC.Ok (EB S y 0 k 0 0 0 0 0 0 0 0 0) oX1 := .cons' d1 .nil
    exact tree_funL (fam q) pc wide in_5 (by kernel_rfl) rfl (u := .bool false) fin
  have d1 := Int.not_lt.1 d1
  by_cases d2 : 1000000 < S.X k
  · have q : PC.Ok (EB S y 0 k 0 0 0 0 0 0 0 0 0) oX2 := .cons' d1 (.cons' d2 .nil)
    exact tree_funL (fam q) pc wide in_6 (by kernel_rfl) rfl (u := .bool false) fin
  have d2 := Int.not_lt.1 d2
  have hx : PC.Ok (EB S y 0 k 0 0 0 0 0 0 0 0 0) (rngE (.ap 0 (.at 10) (.lit 0)) (-1000000) 1000000) := rngE_ok (e := .ap 0 (.at 10) (.lit 0)) d1 d2
  by_cases d3 : S.Y k < -1000000
  · have q : PC.Ok (EB S y 0 k 0 0 0 0 0 0 0 0 0) oY1 := hx.app (.cons' d3 .nil)
    exact tree_funL (fam q) pc wide in_7 (by kernel_rfl) rfl (u := .bool false) fin
  have d3 := Int.not_lt.1 d3
  by_cases d4 : 1000000 < S.Y k
  · have q : PC.Ok (EB S y 0 k 0 0 0 0 0 0 0 0 0) oY2 := hx.app (.cons' d3 (.cons' d4 .nil))
    exact tree_funL (fam q) pc wide in_8 (by kernel_rfl) rfl (u := .bool false) fin
  · exact absurd ⟨⟨d1, d2⟩, ⟨d3, Int.not_lt.1 d4⟩⟩ k4
end
end Go.Proofs.Ytmpadjlplgajcaa
