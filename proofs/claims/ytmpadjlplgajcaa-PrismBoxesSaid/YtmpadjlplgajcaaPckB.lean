/- The reference's look at a base: is it convex? -/
import Derived.Test.YtmpadjlplgajcaaPckA
namespace Go.Proofs.Ytmpadjlplgajcaa
open Go.RowKit
namespace S0
variable (S : S0)
/-- Sums: of the sides, of the triangles. -/
def sP : Nat → Int
  | 0 => 0
  | k + 1 => sP k + (S.X k * S.Y (S.nx k) - S.X (S.nx k) * S.Y k)
def sR : Nat → Int
  | 0 => 0
  | k + 1 => sR k + crs (S.X 0) (S.Y 0) (S.X ((k : Int) + 1)) (S.Y ((k : Int) + 1)) (S.X ((k : Int) + 1 + 1)) (S.Y ((k : Int) + 1 + 1))
end S0
section
variable {S : S0} {y : Lay} {W : World}
def FC (S : S0) (K : Int) (f : Nat) (k c : Int) : Int :=
  if f = 42 then S.sR k.toNat else if f = 43 then S.sP k.toNat else if f = 50 then (if k < K then k else 0) else S.F f k c
def EC (S : S0) (y : Lay) (K k14 k15 k16 k17 k18 k19 : Int) : EnvS := EP [S.lo, S.hi, S.u, S.v, S.w, S.p, S.q, S.r, S.n, 0, 0, 0, 0, 0, k14, k15, k16, k17, k18, k19, S.bd 0 S.n.toNat, S.bd 1 S.n.toNat, S.bd 2 S.n.toNat, S.bd 3 S.n.toNat, S.sP S.n.toNat] (FC S K) y
variable {K k14 k15 k16 k17 k18 k19 : Int}
theorem EC_14 {j : Int} : (EC S y K k14 k15 k16 k17 k18 k19).upd 14 j = EC S y K j k15 k16 k17 k18 k19 := EP_upd (by simp)
theorem EC_15 {j : Int} : (EC S y K k14 k15 k16 k17 k18 k19).upd 15 j = EC S y K k14 j k16 k17 k18 k19 := EP_upd (by simp)
theorem EC_16 {j : Int} : (EC S y K k14 k15 k16 k17 k18 k19).upd 16 j = EC S y K k14 k15 j k17 k18 k19 := EP_upd (by simp)
theorem EC_18 {j : Int} : (EC S y K k14 k15 k16 k17 k18 k19).upd 18 j = EC S y K k14 k15 k16 k17 j k19 := EP_upd (by simp)
theorem EC_19 {j : Int} : (EC S y K k14 k15 k16 k17 k18 k19).upd 19 j = EC S y K k14 k15 k16 k17 k18 j := EP_upd (by simp)
theorem ec_lok (h : Lies S y W) : LOk (EC S y K k14 k15 k16 k17 k18 k19) W L0 := by
  refine ⟨h.nn, fun q => h.pt q, fun j c x hj hk => ?_⟩
  have hj' : (j : Int) < S.n := hj
  match c, hk with
  | 0, hk => cases hk; exact h.cx j hj'
  | 1, hk => cases hk; exact h.cy j hj'
  | c + 2, hk => simp [L0] at hk
theorem ecl (h : Lies S y W) : ∀ L ∈ [L0], LOk (EC S y K k14 k15 k16 k17 k18 k19) W L := fun L hL => by rw [List.mem_singleton.1 hL]; exact ec_lok h
/-- What an environment says of a base. -/
structure Lk (S : S0) (ρ : EnvS) : Prop where
  x : ∀ k, ρ.f 0 k 0 = S.X k
  y : ∀ k, ρ.f 0 k 1 = S.Y k
  n : ρ.v 8 = S.n
  lo : ρ.v 0 = S.lo
  hi : ρ.v 1 = S.hi
theorem ec_lk : Lk S (EC S y K k14 k15 k16 k17 k18 k19) := ⟨fun _ => rfl, fun _ => rfl, rfl, rfl, rfl⟩
def px (k : IE) : IE := .ap 0 k (.lit 0)
def py (k : IE) : IE := .ap 0 k (.lit 1)
def crsE (a b c : IE) : IE := .sub (.mul (.sub (px b) (px a)) (.sub (py c) (py a))) (.mul (.sub (py b) (py a)) (.sub (px c) (px a)))
def inX (e : IE) : PC := [(.lt e (.at 8), true), (.le (.lit 0) e, true), (.lt e (.lit 0), false), (.lt (.lit 64) e, false)]
def nE (a : IE) : IE := .rem (.add a (.lit 1)) (.at 8)
def rowF (a : IE) : PC := inX a ++ remF (.add a (.lit 1)) ++ inR a ++ inR (nE a)
def oneE : IE := .rem (.lit 1) (.at 8)
def rowZ : PC := inX (.lit 0) ++ remF (.lit 1) ++ inR (.lit 0) ++ inR oneE
def cE : IE := .ap 50 (.at 14) (.lit 0)
def BF : SV := .one (.bool (.lit false))
def AO (ex : PC) : LAnn := ⟨490528, 14, [(4, .one (i8 (.at 14))), (3, .one (i8 (.at 8))), (2, BF), (0, .one (.ssl L0))], [], [], ex, [pcn ++ rowF (.at 14) ++ inX cE ++ [(.eq cE (.at 14), true), (.eq (nE cE) (nE (.at 14)), true), (.eq (.add (.at 14) (.lit 1)) (.add cE (.lit 1)), true)]], 0, [], [], []⟩
def iA (a : IE) (j : Nat) : PC := [(.eq (.at j) a, true)]
def iB (a k : IE) (j : Nat) : PC := [(.eq (.at j) a, false), (.eq (.at j) k, true)]
def iC (a k : IE) (j : Nat) (b : Bool) : PC := [(.eq (.at j) a, false), (.eq (.at j) k, false), (.le (crsE a k (.at j)) (.lit 0), b)]
def inn (r : PC) (j : Nat) : PC := pcn ++ r ++ inX (.at j) ++ inR (.at j)
def AI (r : PC) (a k : IE) (j : Nat) (ex : PC) : LAnn := ⟨860764, j, [(6, .one (i8 (.at j))), (5, .one (i8 k)), (4, .one (i8 a)), (3, .one (i8 (.at 8))), (2, BF), (0, .one (.ssl L0))], [], [], ex, [inn r j ++ iA a j, inn r j ++ iB a k j, inn r j ++ iC a k j false], 0, [], [], []⟩
def exO : PC := rowF (.at 14) ++ [(.eq (.at 17) (.at 14), true), (.eq (nE (.at 17)) (nE (.at 14)), true)]
def I1 : LAnn := AI (rowF cE) cE (nE cE) 15 (kOut 15)
def I2 : LAnn := AI (rowF (.at 17)) (.at 17) (nE (.at 17)) 16 (inn (rowF (.at 17)) 16 ++ iC (.at 17) (nE (.at 17)) 16 true)
def I3 : LAnn := AI rowZ (.lit 0) oneE 16 (inn rowZ 16 ++ iC (.lit 0) oneE 16 true)
def z8 : PC := [(.lt (.lit 0) (.at 8), true)]
def rBo (b : Bool) : T SV := .ret (.one (.bool (.lit b)))
theorem cr_yes : treeL Try.prog [] [L0] [AO (kOut 14), I1] pcn 300 20 35 [.one (.ssl L0)] = rBo true := by kernel_rfl
theorem cr_no : treeL Try.prog [] [L0] [AO exO, I2, I1] pcn 300 20 35 [.one (.ssl L0)] = rBo false := by kernel_rfl
theorem cr_zero : treeL Try.prog [] [L0] [I3] (pcn ++ z8) 300 20 35 [.one (.ssl L0)] = rBo false := by kernel_rfl
section
variable {ρ : EnvS}
theorem Lk.pcn (k : Lk S ρ) (h : Rng S) : pcn.Ok ρ := pcn_ok (by rw [k.n]; exact h.n3) (by rw [k.n]; exact h.n64) (by rw [k.lo]; exact h.lo) (by rw [k.hi]; exact h.hi)
theorem Lk.inR (k : Lk S ρ) (h : Rng S) (e : IE) : (inR e).Ok ρ := inR_ok (by rw [k.x]; exact h.X _) (by rw [k.y]; exact h.Y _)
theorem Lk.inX (k : Lk S ρ) (h : Rng S) {e : IE} (h0 : 0 ≤ e.den ρ) (h1 : e.den ρ < S.n) : (inX e).Ok ρ := by
  have := h.n64
  exact .cons' (by show e.den ρ < ρ.v 8; rw [k.n]; exact h1) (.cons' h0 (.cons' h0 (.cons' (by show e.den ρ ≤ 64; omega) .nil)))
theorem Lk.remF (k : Lk S ρ) (h : Rng S) {e : IE} (h0 : 0 ≤ e.den ρ) : (remF e).Ok ρ := remF_ok h0 (by rw [k.n]; have := h.n3; omega)
theorem Lk.rowF (k : Lk S ρ) (h : Rng S) {e : IE} (h0 : 0 ≤ e.den ρ) (h1 : e.den ρ < S.n) : (rowF e).Ok ρ :=
  (((k.inX h h0 h1).app (k.remF h (e := .add e (.lit 1)) (by show 0 ≤ e.den ρ + 1; omega))).app (k.inR h _)).app (k.inR h _)
theorem Lk.rowZ (k : Lk S ρ) (h : Rng S) : rowZ.Ok ρ :=
  (((k.inX h (e := .lit 0) (Int.le_refl _) (by show 0 < S.n; have := h.n3; omega)).app (k.remF h (e := .lit 1) (show (0 : Int) ≤ 1 by decide))).app (k.inR h _)).app (k.inR h _)
theorem Lk.inn (k : Lk S ρ) (h : Rng S) {r : PC} {j : Nat} (hr : r.Ok ρ) (h0 : 0 ≤ ρ.v j) (h1 : ρ.v j < S.n) : (inn r j).Ok ρ :=
  (((k.pcn h).app hr).app (k.inX h (e := .at j) h0 h1)).app (k.inR h _)
theorem Lk.crs (k : Lk S ρ) {a b c : IE} : (crsE a b c).den ρ = crs (S.X (a.den ρ)) (S.Y (a.den ρ)) (S.X (b.den ρ)) (S.Y (b.den ρ)) (S.X (c.den ρ)) (S.Y (c.den ρ)) := by
  show (ρ.f 0 (b.den ρ) 0 - ρ.f 0 (a.den ρ) 0) * (ρ.f 0 (c.den ρ) 1 - ρ.f 0 (a.den ρ) 1) - (ρ.f 0 (b.den ρ) 1 - ρ.f 0 (a.den ρ) 1) * (ρ.f 0 (c.den ρ) 0 - ρ.f 0 (a.den ρ) 0) = _
  simp only [k.x, k.y]; rfl
/-- A round of the inner loop. -/
theorem lk_round (k : Lk S ρ) {r : PC} {a b : IE} {j : Nat} {ex : PC} {i l : Int} (hr : (inn r j).Ok ρ) (ha : a.den ρ = i) (hb : b.den ρ = S.nx i) (hj : ρ.v j = l) (h : Ok2 S i l) : ∃ p ∈ (AI r a b j ex).pcR, p.Ok ρ := by
  by_cases c1 : l = i
  · have q : (iA a j).Ok ρ := .cons' (by show ρ.v j = a.den ρ; rw [hj, ha]; exact c1) .nil
    exact ⟨_, List.mem_cons_self, hr.app q⟩
  have n1 : ρ.v j ≠ a.den ρ := by rw [hj, ha]; exact c1
  by_cases c2 : l = S.nx i
  · have q : (iB a b j).Ok ρ := .cons' n1 (.cons' (by show ρ.v j = b.den ρ; rw [hj, hb]; exact c2) .nil)
    exact ⟨_, List.mem_cons_of_mem _ List.mem_cons_self, hr.app q⟩
  have n2 : ρ.v j ≠ b.den ρ := by rw [hj, hb]; exact c2
  have hc : 0 < (crsE a b (.at j)).den ρ := by
    rw [k.crs, ha, hb]
    show 0 < crs _ _ _ _ (S.X (ρ.v j)) (S.Y (ρ.v j))
    rw [hj]
    rcases h with h | h | h
    · exact absurd h c1
    · exact absurd h c2
    · exact h
  have q : (iC a b j false).Ok ρ := .cons' n1 (.cons' n2 (.cons' hc .nil))
  exact ⟨_, List.mem_cons_of_mem _ (List.mem_cons_of_mem _ List.mem_cons_self), hr.app q⟩
/-- The last round of the inner loop, if a corner doesn't lie to the left. -/
theorem lk_last (k : Lk S ρ) {a b : IE} {j : Nat} {i l : Int} (ha : a.den ρ = i) (hb : b.den ρ = S.nx i) (hj : ρ.v j = l) (h : ¬ Ok2 S i l) : (iC a b j true).Ok ρ := by
  refine .cons' (show ρ.v j ≠ a.den ρ from ?_) (.cons' (show ρ.v j ≠ b.den ρ from ?_) (.cons' (show (crsE a b (.at j)).den ρ ≤ 0 from ?_) .nil))
  · rw [hj, ha]; exact fun q => h (.inl q)
  · rw [hj, hb]; exact fun q => h (.inr (.inl q))
  · rw [k.crs, ha, hb]
    show crs _ _ _ _ (S.X (ρ.v j)) (S.Y (ρ.v j)) ≤ 0
    rw [hj]
    exact Int.not_lt.1 fun q => h (.inr (.inr q))
end
def RowOk (S : S0) (i : Int) : Prop := ∀ l, 0 ≤ l → l < S.n → Ok2 S i l
/-- I1, wherever the outer loop stands. -/
theorem famI1 (hL : Lies S y W) (h : Rng S) {tl : PC} (K0 : 0 < K) (hr : ∀ i, 0 ≤ i → i < K → RowOk S i) (Kn : K ≤ S.n) (h14 : 0 ≤ k14) (_ : tl = []) : Fam (Bs Try.prog W [] [L0]) [I1] (EC S y K k14 S.n k16 k17 k18 k19) := by
  refine ⟨⟨.nil, ecl hL⟩, hL.nn, ⟨kOut_ok (i := 15) (Int.le_refl _), .nil⟩, fun j h0 h1 => ?_⟩
  have e : (EC S y K k14 S.n k16 k17 k18 k19).upd I1.i j = EC S y K k14 j k16 k17 k18 k19 := EC_15
  rw [e]
  have h1 : j < S.n := h1
  have c0 : 0 ≤ cE.den (EC S y K k14 j k16 k17 k18 k19) ∧ cE.den (EC S y K k14 j k16 k17 k18 k19) < K := by
    show 0 ≤ (if k14 < K then k14 else 0) ∧ (if k14 < K then k14 else 0) < K
    split <;> omega
  refine ⟨⟨lk_round ec_lk (i := cE.den (EC S y K k14 j k16 k17 k18 k19)) (l := j) (ec_lk.inn (j := 15) h (ec_lk.rowF h c0.1 (by omega)) h0 h1) rfl rfl rfl (hr _ c0.1 c0.2 j h0 h1), .nil⟩, ⟨.nil, ecl hL⟩⟩
/-- A round of the outer loop. -/
theorem outer_ok (h : Rng S) {j : Int} (h0 : 0 ≤ j) (hj : j < K) (hK : K ≤ S.n) : ∃ p ∈ (AO (kOut 14)).pcR, p.Ok (EC S y K j k15 k16 k17 k18 k19) := by
  have ec : cE.den (EC S y K j k15 k16 k17 k18 k19) = j := by
    show (if j < K then j else 0) = j
    rw [if_pos hj]
  have q : PC.Ok (EC S y K j k15 k16 k17 k18 k19) [(.eq cE (.at 14), true), (.eq (nE cE) (nE (.at 14)), true), (.eq (.add (.at 14) (.lit 1)) (.add cE (.lit 1)), true)] := by
    refine .cons' ec (.cons' ?_ (.cons' ?_ .nil))
    · show (cE.den (EC S y K j k15 k16 k17 k18 k19) + 1).tmod S.n = (j + 1).tmod S.n
      rw [ec]
    · show j + 1 = cE.den (EC S y K j k15 k16 k17 k18 k19) + 1
      rw [ec]
  exact ⟨_, List.mem_singleton.2 rfl, (((ec_lk.pcn h).app (ec_lk.rowF h (e := .at 14) h0 (show j < S.n by omega))).app (ec_lk.inX h (by rw [ec]; exact h0) (by rw [ec]; omega))).app q⟩
theorem crv_yes (hL : Lies S y W) (h : Rng S) (hr : ∀ i, 0 ≤ i → i < S.n → RowOk S i) : Calls Try.prog 35 #[LV S y] W fun e w' => e = .returned (.bool true) ∧ Below W.heap.size W w' := by
  have n3 := h.n3
  have hF : Fam (Bs Try.prog W [] [L0]) [AO (kOut 14), I1] (EC S y S.n S.n S.n 0 0 0 0) := by
    refine ⟨famI1 (tl := []) hL h (by omega) hr (Int.le_refl _) hL.nn rfl, hL.nn, ⟨kOut_ok (i := 14) (Int.le_refl _), .nil⟩, fun j h0 h1 => ?_⟩
    have e : (EC S y S.n S.n S.n 0 0 0 0).upd (AO (kOut 14)).i j = EC S y S.n j S.n 0 0 0 0 := EC_14
    rw [e]
    have h1 : j < S.n := h1
    exact ⟨⟨outer_ok h h0 h1 (Int.le_refl _), .nil⟩, famI1 (tl := []) hL h (by omega) hr (Int.le_refl _) h0 rfl⟩
  exact tree_funL hF (ec_lk.pcn h) wide cr_yes (by kernel_rfl) rfl (u := .bool true) (All.ret rfl)
theorem crv_no (hL : Lies S y W) (h : Rng S) {k l : Int} (k0 : 0 < k) (kn : k < S.n) (hr : ∀ i, 0 ≤ i → i < k → RowOk S i) (l0 : 0 ≤ l) (ln : l < S.n) (hl : ∀ j, 0 ≤ j → j < l → Ok2 S k j) (hn : ¬ Ok2 S k l) : Calls Try.prog 35 #[LV S y] W fun e w' => e = .returned (.bool false) ∧ Below W.heap.size W w' := by
  have f2 : ∀ {k14 : Int}, 0 ≤ k14 → Fam (Bs Try.prog W [] [L0]) [I2, I1] (EC S y k k14 S.n l k 0 0) := fun {k14} h14 => by
    refine ⟨famI1 (tl := []) hL h k0 hr (by omega) h14 rfl, l0, ⟨(ec_lk.inn (j := 16) h (ec_lk.rowF h (e := .at 17) (show 0 ≤ k by omega) kn) l0 ln).app (lk_last ec_lk (i := k) (l := l) rfl rfl rfl hn), .nil⟩, fun j h0 h1 => ?_⟩
    have e : (EC S y k k14 S.n l k 0 0).upd I2.i j = EC S y k k14 S.n j k 0 0 := EC_16
    rw [e]
    have h1 : j < l := h1
    refine ⟨⟨lk_round ec_lk (i := k) (l := j) (ec_lk.inn (j := 16) h (ec_lk.rowF h (e := .at 17) (show 0 ≤ k by omega) kn) h0 (show j < S.n by omega)) rfl rfl rfl (hl j h0 h1), .nil⟩, famI1 (tl := []) hL h k0 hr (by omega) h14 rfl⟩
  have hF : Fam (Bs Try.prog W [] [L0]) [AO exO, I2, I1] (EC S y k k S.n l k 0 0) := by
    refine ⟨f2 (by omega), (show 0 ≤ k by omega), ⟨(ec_lk.rowF h (e := .at 14) (show 0 ≤ k by omega) kn).app (.cons' rfl (.cons' rfl .nil)), .nil⟩, fun j h0 h1 => ?_⟩
    have e : (EC S y k k S.n l k 0 0).upd (AO exO).i j = EC S y k j S.n l k 0 0 := EC_14
    rw [e]
    have h1 : j < k := h1
    exact ⟨⟨outer_ok h h0 h1 (by omega), .nil⟩, f2 h0⟩
  exact tree_funL hF (ec_lk.pcn h) wide cr_no (by kernel_rfl) rfl (u := .bool false) (All.ret rfl)
theorem crv_zero (hL : Lies S y W) (h : Rng S) {l : Int} (l0 : 0 ≤ l) (ln : l < S.n) (hl : ∀ j, 0 ≤ j → j < l → Ok2 S 0 j) (hn : ¬ Ok2 S 0 l) : Calls Try.prog 35 #[LV S y] W fun e w' => e = .returned (.bool false) ∧ Below W.heap.size W w' := by
  have hF : Fam (Bs Try.prog W [] [L0]) [I3] (EC S y 0 0 0 l 0 0 0) := by
    refine ⟨⟨.nil, ecl hL⟩, l0, ⟨(ec_lk.inn (j := 16) h (ec_lk.rowZ h) l0 ln).app (lk_last ec_lk (i := 0) (l := l) rfl rfl rfl hn), .nil⟩, fun j h0 h1 => ?_⟩
    have e : (EC S y 0 0 0 l 0 0 0).upd I3.i j = EC S y 0 0 0 j 0 0 0 := EC_16
    rw [e]
    have h1 : j < l := h1
    exact ⟨⟨lk_round ec_lk (i := 0) (l := j) (ec_lk.inn (j := 16) h (ec_lk.rowZ h) h0 (show j < S.n by omega)) rfl rfl rfl (hl j h0 h1), .nil⟩, ⟨.nil, ecl hL⟩⟩
  have q : PC.Ok (EC S y 0 0 0 l 0 0 0) z8 := .cons' (show 0 < S.n by have := h.n3; omega) .nil
  exact tree_funL hF ((ec_lk.pcn h).app q) wide cr_zero (by kernel_rfl) rfl (u := .bool false) (All.ret rfl)
/-- What the reference's convex says. -/
theorem crv_of (hL : Lies S y W) (h : Rng S) {b : Bool} (hb : b = true ↔ Cv S) : Calls Try.prog 35 #[LV S y] W fun e w' => e = .returned (.bool b) ∧ Below W.heap.size W w' := by
  have hc : Cv S ↔ ∀ i, 0 ≤ i → i < S.n → RowOk S i := (cv_al h.n3).trans al_rows
  obtain ⟨k, k0, k1, k2, k3⟩ := first_of (fun i => RowOk S i) S.n hL.nn
  rcases k3 with rfl | ⟨k3, k4⟩
  · rw [hb.2 (hc.2 k2)]
    exact crv_yes hL h k2
  · have e : b = false := by
      cases hq : b
      · rfl
      · exact absurd (hc.1 (hb.1 hq) k k0 k3) k4
    rw [e]
    obtain ⟨l, l0, l1, l2, l3⟩ := first_of (fun l => Ok2 S k l) S.n hL.nn
    rcases l3 with rfl | ⟨l3, l4⟩
    · exact absurd l2 k4
    · by_cases z : k = 0
      · subst z
        exact crv_zero hL h l0 l3 l2 l4
      · exact crv_no hL h (by omega) k3 k2 l0 l3 l2 l4
end
end Go.Proofs.Ytmpadjlplgajcaa
