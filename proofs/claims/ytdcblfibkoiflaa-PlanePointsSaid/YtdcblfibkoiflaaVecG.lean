/- Plain arithmetic of vectors: ranges, order, greatest common divisors, primitive vectors. -/
import Derived.Test.YtdcblfibkoiflaaVecM
namespace Go.Proofs.Ytdcblfibkoiflaa

abbrev V3 := Int × Int × Int
def inC (n : Int) : Bool := decide (-1000000 ≤ n) && decide (n ≤ 1000000)
theorem inC_iff (n : Int) : inC n = true ↔ (-1000000 ≤ n ∧ n ≤ 1000000) := by simp [inC]
def inV (v : V3) : Bool := inC v.1 && (inC v.2.1 && inC v.2.2)
theorem inV_iff (v : V3) : inV v = true ↔ ((-1000000 ≤ v.1 ∧ v.1 ≤ 1000000) ∧ (-1000000 ≤ v.2.1 ∧ v.2.1 ≤ 1000000) ∧ (-1000000 ≤ v.2.2 ∧ v.2.2 ≤ 1000000)) := by
  simp [inV, inC_iff]
def flt (p : P2) : V3 := (p.1, p.2, 0)
def inP (p : P2) : Bool := inC p.1 && inC p.2
theorem inV_flt (p : P2) : inV (flt p) = inP p := by
  have h0 : inC 0 = true := by decide
  simp [inV, flt, inP, h0]

def addV (a b : V3) : V3 := (a.1 + b.1, a.2.1 + b.2.1, a.2.2 + b.2.2)
def subV (a b : V3) : V3 := (a.1 - b.1, a.2.1 - b.2.1, a.2.2 - b.2.2)
def dotV (a b : V3) : Int := a.1 * b.1 + a.2.1 * b.2.1 + a.2.2 * b.2.2
def crsV (a b : V3) : V3 := (a.2.1 * b.2.2 - a.2.2 * b.2.1, a.2.2 * b.1 - a.1 * b.2.2, a.1 * b.2.1 - a.2.1 * b.1)
theorem mul_bd {x y m n : Int} (hx1 : -m ≤ x) (hx2 : x ≤ m) (hy1 : -n ≤ y) (hy2 : y ≤ n) : -(m * n) ≤ x * y ∧ x * y ≤ m * n := by
  have hm : 0 ≤ m := by omega
  have hn : 0 ≤ n := by omega
  have hx : x.natAbs ≤ m.natAbs := by omega
  have hy : y.natAbs ≤ n.natAbs := by omega
  have h : (x * y).natAbs ≤ (m * n).natAbs := by rw [Int.natAbs_mul, Int.natAbs_mul]; exact Nat.mul_le_mul hx hy
  have h0 : 0 ≤ m * n := Int.mul_nonneg hm hn
  omega

/-- a stands before b. -/
def befV (a b : V3) : Bool := decide (a.1 < b.1) || (decide (a.1 = b.1) && (decide (a.2.1 < b.2.1) || (decide (a.2.1 = b.2.1) && decide (a.2.2 < b.2.2))))
def cmpV (a b : V3) : Int := if befV a b then -1 else if befV b a then 1 else 0
theorem befV_iff (a b : V3) : befV a b = true ↔ (a.1 < b.1 ∨ (a.1 = b.1 ∧ (a.2.1 < b.2.1 ∨ (a.2.1 = b.2.1 ∧ a.2.2 < b.2.2)))) := by simp [befV]
theorem befV_no (a b : V3) : befV a b = false ↔ ¬ (a.1 < b.1 ∨ (a.1 = b.1 ∧ (a.2.1 < b.2.1 ∨ (a.2.1 = b.2.1 ∧ a.2.2 < b.2.2)))) := by rw [← befV_iff]; simp
theorem V3.ext {a b : V3} (h1 : a.1 = b.1) (h2 : a.2.1 = b.2.1) (h3 : a.2.2 = b.2.2) : a = b := Prod.ext h1 (Prod.ext h2 h3)
theorem cmpV_cases (a b : V3) : (befV a b = true ∧ befV b a = false ∧ cmpV a b = -1) ∨ (befV b a = true ∧ befV a b = false ∧ cmpV a b = 1) ∨ (a = b ∧ befV a b = false ∧ cmpV a b = 0) := by
  unfold cmpV
  rcases h1 : befV a b with _ | _
  · rcases h2 : befV b a with _ | _
    · have : a = b := by rw [befV_no] at h1 h2; exact V3.ext (by omega) (by omega) (by omega)
      simp [this]
    · simp
  · rcases h2 : befV b a with _ | _
    · simp
    · rw [befV_iff] at h1 h2; omega
theorem befV_flt (a b : P2) : befV (flt a) (flt b) = bef a b := by rw [Bool.eq_iff_iff, befV_iff, bef_iff]; simp [flt]
theorem cmpV_flt (a b : P2) : cmpV (flt a) (flt b) = cmp2 a b := by simp [cmpV, cmp2, befV_flt]
theorem cmpV_self (a : V3) : cmpV a a = 0 := by simp [cmpV, befV]
/-- By the coordinates, one after the other. -/
theorem cmpV_sgn (a b : V3) : cmpV a b = if sgn (a.1 - b.1) ≠ 0 then sgn (a.1 - b.1) else if sgn (a.2.1 - b.2.1) ≠ 0 then sgn (a.2.1 - b.2.1) else sgn (a.2.2 - b.2.2) := by
  rcases cmpV_cases a b with ⟨h, h', e⟩ | ⟨h, h', e⟩ | ⟨h, h', e⟩ <;> rw [e]
  · rw [befV_iff] at h; unfold sgn; repeat' split <;> omega
  · rw [befV_iff] at h; unfold sgn; repeat' split <;> omega
  · subst h; simp [sgn]
theorem cmpV_anti (a b : V3) : cmpV b a = -cmpV a b := by
  rcases cmpV_cases a b with ⟨h, h', e⟩ | ⟨h, h', e⟩ | ⟨h, h', e⟩ <;> rw [e] <;> unfold cmpV
  · rw [h', h]; rfl
  · rw [h]; rfl
  · subst h; rw [h']; rfl
theorem cmpV_zero (a b : V3) : cmpV a b = 0 ↔ a = b := by
  rcases cmpV_cases a b with ⟨h, h', e⟩ | ⟨h, h', e⟩ | ⟨h, h', e⟩ <;> rw [e]
  · simp; rintro rfl; rw [h] at h'; cases h'
  · simp; rintro rfl; rw [h] at h'; cases h'
  · simp [h]
theorem cmpV_bd (a b : V3) : -1 ≤ cmpV a b ∧ cmpV a b ≤ 1 := by
  rcases cmpV_cases a b with ⟨h, h', e⟩ | ⟨h, h', e⟩ | ⟨h, h', e⟩ <;> rw [e] <;> omega
theorem cmpV_neg (a b : V3) : cmpV a b < 0 ↔ befV a b = true := by
  rcases cmpV_cases a b with ⟨h, h', e⟩ | ⟨h, h', e⟩ | ⟨h, h', e⟩ <;> rw [e] <;> simp [h, h']
  subst h
  exact h'
theorem cmpV_trans (a b c : V3) (h1 : cmpV a b ≤ 0) (h2 : cmpV b c ≤ 0) : cmpV a c ≤ 0 ∧ (cmpV a c < 0 ∨ (cmpV a b = 0 ∧ cmpV b c = 0)) := by
  rcases cmpV_cases a b with ⟨h, h', e⟩ | ⟨h, h', e⟩ | ⟨h, h', e⟩ <;> rcases cmpV_cases b c with ⟨g, g', f⟩ | ⟨g, g', f⟩ | ⟨g, g', f⟩ <;> (try omega)
  · have : befV a c = true := by rw [befV_iff] at *; omega
    have := (cmpV_neg a c).2 this
    omega
  · subst g; omega
  · subst h; omega
  · subst h; subst g; omega

/-- The greatest common divisor of the coordinates. -/
def gcdV (v : V3) : Int := (Nat.gcd (Nat.gcd v.1.natAbs v.2.1.natAbs) v.2.2.natAbs : Nat)
def prmV (v : V3) : V3 := (v.1.tdiv (gcdV v), v.2.1.tdiv (gcdV v), v.2.2.tdiv (gcdV v))
def negV (v : V3) : V3 := (-v.1, -v.2.1, -v.2.2)
theorem gcdV_nonneg (v : V3) : 0 ≤ gcdV v := by unfold gcdV; omega
theorem gcdV_pos {v : V3} (h : v ≠ (0, 0, 0)) : 1 ≤ gcdV v := by
  have h0 := gcdV_nonneg v
  rcases Int.lt_or_le (gcdV v) 1 with h1 | h1
  · exfalso
    have h2 : Nat.gcd (Nat.gcd v.1.natAbs v.2.1.natAbs) v.2.2.natAbs = 0 := by unfold gcdV at *; omega
    rw [Nat.gcd_eq_zero_iff, Nat.gcd_eq_zero_iff] at h2
    exact h (V3.ext (show v.1 = 0 by omega) (show v.2.1 = 0 by omega) (show v.2.2 = 0 by omega))
  · exact h1
theorem gcdV_dvd (v : V3) : gcdV v ∣ v.1 ∧ gcdV v ∣ v.2.1 ∧ gcdV v ∣ v.2.2 := by
  unfold gcdV
  have h1 := Nat.gcd_dvd_left (Nat.gcd v.1.natAbs v.2.1.natAbs) v.2.2.natAbs
  have h2 := Nat.gcd_dvd_right (Nat.gcd v.1.natAbs v.2.1.natAbs) v.2.2.natAbs
  exact ⟨Int.ofNat_dvd_left.2 (Nat.dvd_trans h1 (Nat.gcd_dvd_left _ _)), Int.ofNat_dvd_left.2 (Nat.dvd_trans h1 (Nat.gcd_dvd_right _ _)), Int.ofNat_dvd_left.2 h2⟩
theorem prmV_mul (v : V3) : gcdV v * (prmV v).1 = v.1 ∧ gcdV v * (prmV v).2.1 = v.2.1 ∧ gcdV v * (prmV v).2.2 = v.2.2 := by
  obtain ⟨h1, h2, h3⟩ := gcdV_dvd v
  exact ⟨Int.mul_tdiv_cancel' h1, Int.mul_tdiv_cancel' h2, Int.mul_tdiv_cancel' h3⟩
theorem tdiv_bd {x k : Int} (_ : 1 ≤ k) : (x.tdiv k).natAbs ≤ x.natAbs := by
  rw [Int.natAbs_tdiv]; exact Nat.div_le_self _ _
theorem prmV_in {v : V3} (h : inV v = true) (hk : 1 ≤ gcdV v) : inV (prmV v) = true := by
  rw [inV_iff] at *
  have h1 := tdiv_bd (x := v.1) hk
  have h2 := tdiv_bd (x := v.2.1) hk
  have h3 := tdiv_bd (x := v.2.2) hk
  unfold prmV
  dsimp only
  omega
theorem gcdV_mul (k : Int) (v : V3) (hk : 0 ≤ k) : gcdV (k * v.1, k * v.2.1, k * v.2.2) = k * gcdV v := by
  unfold gcdV
  dsimp only
  rw [Int.natAbs_mul, Int.natAbs_mul, Int.natAbs_mul, Nat.gcd_mul_left, Nat.gcd_mul_left, Int.natCast_mul]
  congr 1
  omega
theorem gcdV_prm {v : V3} (hk : 1 ≤ gcdV v) : gcdV (prmV v) = 1 := by
  have h := gcdV_mul (gcdV v) (prmV v) (by omega)
  obtain ⟨h1, h2, h3⟩ := prmV_mul v
  rw [h1, h2, h3] at h
  have h' : gcdV v * gcdV (prmV v) = gcdV v * 1 := by rw [← h]; simp
  exact Int.eq_of_mul_eq_mul_left (by omega) h'
theorem prmV_prm {v : V3} (hk : 1 ≤ gcdV v) : prmV (prmV v) = prmV v := by
  have h := gcdV_prm hk
  show ((prmV v).1.tdiv (gcdV (prmV v)), (prmV v).2.1.tdiv (gcdV (prmV v)), (prmV v).2.2.tdiv (gcdV (prmV v))) = _
  rw [h]
  simp
theorem prmV_nz {v : V3} (h : v ≠ (0, 0, 0)) : prmV v ≠ (0, 0, 0) := by
  intro e
  obtain ⟨h1, h2, h3⟩ := prmV_mul v
  rw [e] at h1 h2 h3
  exact h (V3.ext (by simpa using h1.symm) (by simpa using h2.symm) (by simpa using h3.symm))
theorem gcdV_neg (v : V3) : gcdV (negV v) = gcdV v := by simp [gcdV, negV]
theorem prmV_neg (v : V3) : prmV (negV v) = negV (prmV v) := by
  show ((-v.1).tdiv (gcdV (negV v)), (-v.2.1).tdiv (gcdV (negV v)), (-v.2.2).tdiv (gcdV (negV v))) = _
  rw [gcdV_neg, Int.neg_tdiv, Int.neg_tdiv, Int.neg_tdiv]
  rfl
theorem gcdV_le {v : V3} (h : inV v = true) (hk : v ≠ (0, 0, 0)) : gcdV v ≤ 1000000 := by
  rw [inV_iff] at h
  obtain ⟨h1, h2, h3⟩ := gcdV_dvd v
  by_cases e1 : v.1 = 0
  · by_cases e2 : v.2.1 = 0
    · have e3 : v.2.2 ≠ 0 := fun e3 => hk (V3.ext e1 e2 e3)
      have := Nat.le_of_dvd (by omega) (Int.ofNat_dvd_left.1 h3)
      unfold gcdV; omega
    · have := Nat.le_of_dvd (by omega) (Int.ofNat_dvd_left.1 h2)
      unfold gcdV; omega
  · have := Nat.le_of_dvd (by omega) (Int.ofNat_dvd_left.1 h1)
    unfold gcdV; omega
end Go.Proofs.Ytdcblfibkoiflaa
