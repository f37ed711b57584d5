/- Polygons that turn to the left at each corner and go around once: every corner lies to the left of every edge; and the other way around. Numbers only. -/
namespace Go.Proofs.Ytmpadjlplgajcaa.Cvx
/-! Signs of products. -/
theorem mpp {a b : Int} (h : 0 < a) (k : 0 < b) : 0 < a * b := Int.mul_pos h k
theorem mnn {a b : Int} (h : a ≤ 0) (k : b ≤ 0) : 0 ≤ a * b := by
  have := Int.mul_nonneg (Int.neg_nonneg.2 h) (Int.neg_nonneg.2 k)
  rwa [Int.neg_mul_neg] at this
theorem mnn' {a b : Int} (h : a < 0) (k : b < 0) : 0 < a * b := by
  have := Int.mul_pos (Int.neg_pos.2 h) (Int.neg_pos.2 k)
  rwa [Int.neg_mul_neg] at this
theorem mpn {a b : Int} (h : 0 ≤ a) (k : b ≤ 0) : a * b ≤ 0 := by
  have := Int.mul_nonneg h (Int.neg_nonneg.2 k)
  rw [Int.mul_neg] at this
  omega
theorem mnp {a b : Int} (h : a ≤ 0) (k : 0 ≤ b) : a * b ≤ 0 := by rw [Int.mul_comm]; exact mpn k h
theorem mnp' {a b : Int} (h : a < 0) (k : 0 < b) : a * b < 0 := by
  have := Int.mul_pos (Int.neg_pos.2 h) k
  rw [Int.neg_mul] at this
  omega
theorem mpn' {a b : Int} (h : 0 < a) (k : b < 0) : a * b < 0 := by rw [Int.mul_comm]; exact mnp' k h
theorem posr {a b : Int} (h : 0 < a * b) (k : 0 < a) : 0 < b := by
  by_cases q : 0 < b
  · exact q
  · have := mpn (Int.le_of_lt k) (Int.not_lt.1 q); omega
theorem nonr {a b : Int} (h : 0 ≤ a * b) (k : 0 < a) : 0 ≤ b := by
  by_cases q : 0 ≤ b
  · exact q
  · have := mpn' k (Int.not_le.1 q); omega
/-- Across. -/
def cr (a b c d : Int) : Int := a * d - b * c
theorem cr3 (a b c d e f : Int) : d * cr a b e f = f * cr a b c d + b * cr c d e f := by unfold cr; grind
theorem cr_neg (a b c d : Int) : cr c d a b = - cr a b c d := by unfold cr; grind
def df (X : Int → Int) (k : Int) : Int := X (k + 1) - X k
section
variable {n : Int} {X Y : Int → Int}
/-- Edge k as seen from edge i. -/
def g (X Y : Int → Int) (i k : Int) : Int := cr (df X i) (df Y i) (df X k) (df Y k)
theorem g_neg (i k : Int) : g X Y k i = - g X Y i k := cr_neg _ _ _ _
theorem g3 (i j k : Int) : df Y j * g X Y i k = df Y k * g X Y i j + df Y i * g X Y j k := cr3 _ _ _ _ _ _
/-- In a run of edges that rise. -/
theorem up {a b : Int} (T : ∀ k, 0 < g X Y k (k + 1)) (hU : ∀ k, a ≤ k → k < b → 0 < df Y k) {j : Int} (hj : a ≤ j) : ∀ d : Nat, j + (d + 1 : Nat) < b → 0 < g X Y j (j + (d + 1 : Nat))
  | 0, _ => T j
  | d + 1, h => by
    have ih := up T hU hj d (by omega)
    have t := T (j + (d + 1 : Nat))
    have e : j + ((d + 1 + 1 : Nat) : Int) = j + (d + 1 : Nat) + 1 := by omega
    rw [e]
    have u0 := hU j hj (by omega)
    have u1 := hU (j + (d + 1 : Nat)) (by omega) (by omega)
    have u2 := hU (j + (d + 1 : Nat) + 1) (by omega) (by omega)
    have id := g3 (X := X) (Y := Y) j (j + (d + 1 : Nat)) (j + (d + 1 : Nat) + 1)
    have p1 := mpp u2 ih
    have p2 := mpp u0 t
    exact posr (by omega) u1
theorem up' {a b j k : Int} (T : ∀ k, 0 < g X Y k (k + 1)) (hU : ∀ k, a ≤ k → k < b → 0 < df Y k) (hj : a ≤ j) (hjk : j < k) (hk : k < b) : 0 < g X Y j k := by
  have := up T hU hj (k - j - 1).toNat (by omega)
  have e : j + (((k - j - 1).toNat + 1 : Nat) : Int) = k := by omega
  rwa [e] at this
/-- In a run of edges that don't rise: a falling one. -/
theorem dn {a b : Int} (T : ∀ k, 0 < g X Y k (k + 1)) (hD : ∀ k, a ≤ k → k < b → df Y k ≤ 0) {j : Int} (hj : a ≤ j) (h0 : df Y j < 0) : ∀ d : Nat, j + (d + 1 : Nat) < b → 0 < g X Y j (j + (d + 1 : Nat))
  | 0, _ => T j
  | d + 1, h => by
    have ih := dn T hD hj h0 d (by omega)
    have t := T (j + (d + 1 : Nat))
    have e : j + ((d + 1 + 1 : Nat) : Int) = j + (d + 1 : Nat) + 1 := by omega
    rw [e]
    have u1 := hD (j + (d + 1 : Nat)) (by omega) (by omega)
    have u2 := hD (j + (d + 1 : Nat) + 1) (by omega) (by omega)
    have id := g3 (X := X) (Y := Y) j (j + (d + 1 : Nat)) (j + (d + 1 : Nat) + 1)
    have p1 := mnp u2 (Int.le_of_lt ih)
    have p2 := mnp' h0 t
    by_cases q : 0 < g X Y j (j + (d + 1 : Nat) + 1)
    · exact q
    · have := mnn u1 (Int.not_lt.1 q)
      omega
theorem dn' {a b j k : Int} (T : ∀ k, 0 < g X Y k (k + 1)) (hD : ∀ k, a ≤ k → k < b → df Y k ≤ 0) (hj : a ≤ j) (h0 : df Y j < 0) (hjk : j < k) (hk : k < b) : 0 < g X Y j k := by
  have := dn T hD hj h0 (k - j - 1).toNat (by omega)
  have e : j + (((k - j - 1).toNat + 1 : Nat) : Int) = k := by omega
  rwa [e] at this
theorem g_flat {i : Int} (h : df Y i = 0) (k : Int) : g X Y i k = df X i * df Y k := by
  unfold g cr; rw [h]; simp
/-- A level edge that isn't the last one of such a run points to the left, one that isn't the first one to the right. -/
theorem flat_l {j : Int} (T : ∀ k, 0 < g X Y k (k + 1)) (h0 : df Y j = 0) (h1 : df Y (j + 1) ≤ 0) : df X j < 0 := by
  have t := T j
  rw [g_flat h0] at t
  by_cases q : df X j < 0
  · exact q
  · have := mpn (Int.not_lt.1 q) h1; omega
theorem flat_r {j : Int} (T : ∀ k, 0 < g X Y k (k + 1)) (h0 : df Y j = 0) (h1 : df Y (j - 1) ≤ 0) : 0 < df X j := by
  have t := T (j - 1)
  rw [show j - 1 + 1 = j by omega, ← Int.neg_neg (g X Y (j - 1) j), ← g_neg, g_flat h0] at t
  by_cases q : 0 < df X j
  · exact q
  · have := mnn (Int.not_lt.1 q) h1; omega
theorem dn_ge {a b j k : Int} (T : ∀ k, 0 < g X Y k (k + 1)) (hD : ∀ k, a ≤ k → k < b → df Y k ≤ 0) (hj : a ≤ j) (hjk : j < k) (hk : k < b) : 0 ≤ g X Y j k := by
  by_cases h0 : df Y j = 0
  · rw [g_flat h0]
    exact mnn (Int.le_of_lt (flat_l T h0 (hD _ (by omega) (by omega)))) (hD _ (by omega) hk)
  · exact Int.le_of_lt (dn' T hD hj (by have := hD j hj (by omega); omega) hjk hk)
theorem df_per (pX : ∀ k, X (k + n) = X k) (k : Int) : df X (k + n) = df X k := by
  unfold df
  rw [show k + n + 1 = k + 1 + n by omega, pX, pX]
theorem g_per (pX : ∀ k, X (k + n) = X k) (pY : ∀ k, Y (k + n) = Y k) (i k : Int) : g X Y i (k + n) = g X Y i k := by
  unfold g
  rw [df_per pX, df_per pY]
/-- What is known of the ways around: s, where they begin to rise, m, where they end to. -/
structure Runs (n : Int) (X Y : Int → Int) (s m : Int) : Prop where
  n3 : 3 ≤ n
  pX : ∀ k, X (k + n) = X k
  pY : ∀ k, Y (k + n) = Y k
  T : ∀ k, 0 < g X Y k (k + 1)
  sm : s ≤ m
  mn : m ≤ s + n
  U : ∀ k, s ≤ k → k < m → 0 < df Y k
  D : ∀ k, m ≤ k → k < s + n → df Y k ≤ 0
variable {s m : Int}
theorem Runs.per (R : Runs n X Y s m) (i k : Int) : g X Y i k = g X Y i (k - n) := by
  have := g_per R.pX R.pY i (k - n)
  rwa [show k - n + n = k by omega] at this
theorem Runs.dper (R : Runs n X Y s m) (k : Int) : df Y k = df Y (k - n) := by
  have := df_per R.pY (k - n)
  rwa [show k - n + n = k by omega] at this
/-- Seen from an edge, what once points to the right does so until the end. -/
theorem Runs.right (R : Runs n X Y s m) {i l k : Int} (h1 : s ≤ i) (h2 : i < s + n) (hl : i < l) (hlk : l < k) (hk : k < i + n) (hg : g X Y i l ≤ 0) : g X Y i k ≤ 0 := by
  have id := g3 (X := X) (Y := Y) i l k
  have hmn := R.mn
  have hsm := R.sm
  by_cases c : i < m
  · have ui := R.U i h1 c
    -- the first copy of what rises: no
    by_cases l1 : l < m
    · have := up' R.T R.U h1 hl l1; omega
    -- behind: the next copy of what rises
    have nxt : s + n ≤ k → g X Y i k ≤ 0 := fun q => by
      rw [R.per]
      have := up' R.T R.U (j := k - n) (k := i) (by omega) (by omega) c
      have e := g_neg (X := X) (Y := Y) i (k - n)
      omega
    by_cases k1 : s + n ≤ k
    · exact nxt k1
    have dl := R.D l (by omega) (by omega)
    have dk := R.D k (by omega) (by omega)
    by_cases z : df Y l = 0
    · have hx := flat_l R.T z (R.D (l + 1) (by omega) (by omega))
      have e : g X Y i l = - g X Y l i := g_neg l i
      rw [g_flat z] at e
      have := mnp' hx ui
      omega
    · have glk := dn' R.T R.D (by omega) (by omega) hlk (by omega)
      have p1 := mnn dk hg
      have p2 := mpp ui glk
      by_cases q : g X Y i k ≤ 0
      · exact q
      · have := mnp dl (Int.le_of_lt (Int.not_le.1 q)); omega
  · have di := R.D i (by omega) h2
    -- the next copy of what doesn't rise
    have nxt : m + n ≤ k → g X Y i k ≤ 0 := fun q => by
      rw [R.per]
      have := dn_ge R.T R.D (j := k - n) (k := i) (by omega) (by omega) h2
      have e := g_neg (X := X) (Y := Y) i (k - n)
      omega
    by_cases k1 : m + n ≤ k
    · exact nxt k1
    by_cases l1 : l < s + n
    · have zi : df Y i = 0 := by
        by_cases z : df Y i = 0
        · exact z
        · have := dn' R.T R.D (j := i) (k := l) (by omega) (by omega) hl l1; omega
      have dl := R.D l (by omega) l1
      have hx := flat_l R.T zi (R.D (i + 1) (by omega) (by omega))
      have zl : df Y l = 0 := by
        by_cases z : df Y l = 0
        · exact z
        · rw [g_flat zi] at hg
          have := mnn' hx (show df Y l < 0 by omega); omega
      by_cases k2 : k < s + n
      · have a1 := flat_l R.T zl (R.D (l + 1) (by omega) (by omega))
        have a2 := flat_r R.T zl (R.D (l - 1) (by omega) (by omega))
        omega
      · rw [g_flat zi, R.dper]
        exact Int.le_of_lt (mnp' hx (R.U (k - n) (by omega) (by omega)))
    · -- both in the next copy of what rises
      have ul := R.U (l - n) (by omega) (by omega)
      have uk := R.U (k - n) (by omega) (by omega)
      rw [← R.dper] at ul uk
      have glk : 0 < g X Y l k := by
        have := up' R.T R.U (j := l - n) (k := k - n) (by omega) (by omega) (by omega)
        have e : g X Y l k = g X Y (l - n) (k - n) := by
          rw [R.per l k, g_neg, R.per (k - n) l, ← g_neg]
        omega
      have p1 := mpn (Int.le_of_lt uk) hg
      have p2 := mnp di (Int.le_of_lt glk)
      by_cases q : g X Y i k ≤ 0
      · exact q
      · have := mpp ul (Int.not_le.1 q); omega
/-- How far corner j lies to the left of edge i. -/
def f (X Y : Int → Int) (i j : Int) : Int := cr (df X i) (df Y i) (X j - X i) (Y j - Y i)
theorem f_succ (i j : Int) : f X Y i (j + 1) = f X Y i j + g X Y i j := by unfold f g cr df; grind
theorem f_next (i : Int) : f X Y i (i + 1) = 0 := by unfold f cr df; grind
theorem f_end (R : Runs n X Y s m) (i : Int) : f X Y i (i + n) = 0 := by
  unfold f cr
  rw [R.pX, R.pY]
  simp
theorem fore (i : Int) : ∀ d : Nat, (∀ l, i < l → l < i + 1 + d → 0 < g X Y i l) → 0 ≤ f X Y i (i + 1 + d) ∧ (0 < d → 0 < f X Y i (i + 1 + d))
  | 0, _ => by
    have := f_next (X := X) (Y := Y) i
    exact ⟨by rw [show i + 1 + ((0 : Nat) : Int) = i + 1 by omega]; omega, fun h => by omega⟩
  | d + 1, h => by
    have ih := (fore i d fun l h1 h2 => h l h1 (by omega)).1
    have e : i + 1 + ((d + 1 : Nat) : Int) = i + 1 + d + 1 := by omega
    rw [e, f_succ]
    have := h (i + 1 + d) (by omega) (by omega)
    exact ⟨by omega, fun _ => by omega⟩
theorem back (R : Runs n X Y s m) (i : Int) : ∀ d : Nat, (∀ l, i + n - 1 - d ≤ l → l < i + n → g X Y i l ≤ 0) → 0 < f X Y i (i + n - 1 - d)
  | 0, _ => by
    have e := f_end R i
    have e2 := f_succ (X := X) (Y := Y) i (i + n - 1)
    rw [show i + n - 1 + 1 = i + n by omega] at e2
    have t := R.T (i - 1)
    rw [show i - 1 + 1 = i by omega] at t
    have e3 : g X Y i (i + n - 1) = g X Y i (i - 1) := by rw [R.per]; congr 1; omega
    have e4 := g_neg (X := X) (Y := Y) i (i - 1)
    rw [show i + n - 1 - ((0 : Nat) : Int) = i + n - 1 by omega]
    omega
  | d + 1, h => by
    have ih := back R i d fun l h1 h2 => h l (by omega) h2
    have e := f_succ (X := X) (Y := Y) i (i + n - 1 - ((d + 1 : Nat) : Int))
    rw [show i + n - 1 - ((d + 1 : Nat) : Int) + 1 = i + n - 1 - d by omega] at e
    have := h (i + n - 1 - ((d + 1 : Nat) : Int)) (by omega) (by omega)
    omega
/-- Every corner lies to the left of every edge. -/
theorem Runs.left (R : Runs n X Y s m) {i j : Int} (h1 : s ≤ i) (h2 : i < s + n) (hj : i + 1 < j) (hjn : j < i + n) : 0 < f X Y i j := by
  by_cases c : ∃ l, i < l ∧ l < j ∧ g X Y i l ≤ 0
  · obtain ⟨l, l1, l2, l3⟩ := c
    have := back R i (i + n - 1 - j).toNat fun k k1 k2 => by
      have k1 : j ≤ k := by omega
      exact R.right h1 h2 l1 (by omega) k2 l3
    rwa [show i + n - 1 - (((i + n - 1 - j).toNat : Nat) : Int) = j by omega] at this
  · have := (fore (X := X) (Y := Y) i (j - i - 1).toNat fun l l1 l2 => by
      by_cases q : 0 < g X Y i l
      · exact q
      · exact absurd ⟨l, l1, by omega, Int.not_lt.1 q⟩ c).2 (by omega)
    rwa [show i + 1 + (((j - i - 1).toNat : Nat) : Int) = j by omega] at this
end
end Go.Proofs.Ytmpadjlplgajcaa.Cvx
