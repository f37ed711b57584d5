/- FractionOrder: the order of fractions, and the law's walk. -/
import Derived.Test.YtinnlahmlepeeaaDoorFraDa
import Derived.Test.YtinnlahmlepeeaaDoorFraK
import Derived.Test.YtinnlahmlepeeaaDoorFraH
import Derived.Test.YtinnlahmlepeeaaDoorFraJ
import Derived.Test.YtinnlahmlepeeaaDoorFraO
import Derived.Test.YtinnlahmlepeeaaDoorExW
namespace Go.Proofs.YtinnlahmlepeeaaDoor
open Go.RowKit
theorem ord_parts {f : F2} (h : validF f = true) : (toQ f).num = f.1 ∧ ((toQ f).den : Int) = f.2 ∧ 1 ≤ f.2 ∧ -1000000000000000000 < f.1 ∧ f.1 < 1000000000000000000 := by
  obtain ⟨h1, _, h3, h4, h5⟩ := (validF_iff f).1 h
  obtain ⟨e1, e2⟩ := lowest_num (n := f.1) (d := f.2) (by omega) h5
  exact ⟨e1, e2, h1, h3, h4⟩
theorem toQ_le {f g : F2} (hf : validF f = true) (hg : validF g = true) : toQ f ≤ toQ g ↔ f.1 * g.2 ≤ g.1 * f.2 := by
  obtain ⟨a1, a2, _⟩ := ord_parts hf
  obtain ⟨b1, b2, _⟩ := ord_parts hg
  rw [Rat.le_iff, a1, a2, b1, b2]
theorem cmpR_val {f g : F2} (hf : validF f = true) (hg : validF g = true) : cmpR f g = sgnI (f.1 * g.2 - g.1 * f.2) := by
  unfold cmpR
  rw [hf, hg]
  have e : f.1 * g.2 + -g.1 * f.2 = f.1 * g.2 - g.1 * f.2 := by rw [Int.neg_mul]; omega
  rw [e]
  rfl
theorem cmpR_cases {f g : F2} (hf : validF f = true) (hg : validF g = true) : (cmpR f g = -1 ∧ f.1 * g.2 < g.1 * f.2) ∨ (cmpR f g = 0 ∧ f.1 * g.2 = g.1 * f.2) ∨ (cmpR f g = 1 ∧ g.1 * f.2 < f.1 * g.2) := by
  rw [cmpR_val hf hg]
  unfold sgnI
  (repeat' split) <;> omega
theorem cmpR_neg {f g : F2} (hf : validF f = true) (hg : validF g = true) : cmpR g f = -cmpR f g := by
  rcases cmpR_cases hf hg with h | h | h <;> rcases cmpR_cases hg hf with k | k | k <;> omega
theorem cmpR_zero {f g : F2} (hf : validF f = true) (hg : validF g = true) (h : cmpR f g = 0) : f = g := by
  refine toQ_inj hf hg (Rat.le_antisymm ((toQ_le hf hg).2 ?_) ((toQ_le hg hf).2 ?_)) <;> rcases cmpR_cases hf hg with k | k | k <;> omega
theorem cmpR_self {f : F2} (hf : validF f = true) : cmpR f f = 0 := by
  rcases cmpR_cases hf hf with k | k | k <;> omega
theorem cross_trans {a b c : F2} (ha : 1 ≤ a.2) (hb : 1 ≤ b.2) (hc : 1 ≤ c.2) (h1 : a.1 * b.2 ≤ b.1 * a.2) (h2 : b.1 * c.2 ≤ c.1 * b.2) : a.1 * c.2 ≤ c.1 * a.2 := by
  have k1 := Int.mul_le_mul_of_nonneg_right h1 (show 0 ≤ c.2 by omega)
  have k2 := Int.mul_le_mul_of_nonneg_right h2 (show 0 ≤ a.2 by omega)
  refine Int.le_of_mul_le_mul_right (a := b.2) ?_ (by omega)
  have e1 : a.1 * c.2 * b.2 = a.1 * b.2 * c.2 := by grind
  have e2 : c.1 * a.2 * b.2 = c.1 * b.2 * a.2 := by grind
  have e3 : b.1 * a.2 * c.2 = b.1 * c.2 * a.2 := by grind
  omega
theorem cmpR_trans {a b c : F2} (ha : validF a = true) (hb : validF b = true) (hc : validF c = true) (h1 : cmpR a b ≤ 0) (h2 : cmpR b c ≤ 0) : cmpR a c ≤ 0 := by
  have := cross_trans (ord_parts ha).2.2.1 (ord_parts hb).2.2.1 (ord_parts hc).2.2.1 (by rcases cmpR_cases ha hb with k | k | k <;> omega) (by rcases cmpR_cases hb hc with k | k | k <;> omega)
  rcases cmpR_cases ha hc with k | k | k <;> omega
theorem cmpR_add {a b c : F2} (ha : validF a = true) (hb : validF b = true) (hc : validF c = true) (h1 : (addR a c).2 = 0) (h2 : (addR b c).2 = 0) : cmpR (addR a c).1 (addR b c).1 = cmpR a b := by
  have k1 : addR a c = ratR (toQ a + toQ c) := by unfold addR; rw [ha, hc]; rfl
  have k2 : addR b c = ratR (toQ b + toQ c) := by unfold addR; rw [hb, hc]; rfl
  have z1 : ratR (toQ a + toQ c) = ((addR a c).1, 0) := by rw [← k1, ← h1]
  have z2 : ratR (toQ b + toQ c) = ((addR b c).1, 0) := by rw [← k2, ← h2]
  obtain ⟨s1, f1⟩ := ratR_ok z1
  obtain ⟨s2, f2⟩ := ratR_ok z2
  rw [s1, s2]
  have v1 := ofQ_valid f1
  have v2 := ofQ_valid f2
  have l1 := toQ_le v1 v2
  have l2 := toQ_le v2 v1
  rw [toQ_ofQ, toQ_ofQ, Rat.add_le_add_right, toQ_le ha hb] at l1
  rw [toQ_ofQ, toQ_ofQ, Rat.add_le_add_right, toQ_le hb ha] at l2
  rcases cmpR_cases ha hb with k | k | k <;> rcases cmpR_cases v1 v2 with q | q | q <;> omega
theorem div_mono {p q r s : Int} (hq : 1 ≤ q) (hs : 1 ≤ s) (h : p * s ≤ r * q) : p / q ≤ r / s := by
  have h1 : p / q * q ≤ p := Int.ediv_mul_le p (by omega)
  refine (Int.le_ediv_iff_mul_le (by omega)).2 (Int.le_of_mul_le_mul_right (a := q) ?_ (by omega))
  have k1 := Int.mul_le_mul_of_nonneg_right h1 (show 0 ≤ s by omega)
  have e1 : p / q * s * q = p / q * q * s := by grind
  omega
theorem floorR_mono {a b : F2} (ha : validF a = true) (hb : validF b = true) (h : cmpR a b ≤ 0) : floorR a ≤ floorR b := by
  unfold floorR
  rw [ha, hb]
  exact div_mono (ord_parts ha).2.2.1 (ord_parts hb).2.2.1 (by rcases cmpR_cases ha hb with k | k | k <;> omega)
theorem roundR_mono {a b : F2} (ha : validF a = true) (hb : validF b = true) (h : cmpR a b ≤ 0) : roundR a ≤ roundR b := by
  have hx : a.1 * b.2 ≤ b.1 * a.2 := by rcases cmpR_cases ha hb with k | k | k <;> omega
  obtain ⟨_, _, pa, _⟩ := ord_parts ha
  obtain ⟨_, _, pb, _⟩ := ord_parts hb
  unfold roundR
  rw [ha, hb]
  simp only [if_true]
  by_cases h1 : a.1 < 0 <;> by_cases h2 : b.1 < 0
  · rw [if_pos h1, if_pos h2]
    have := div_mono (p := 2 * -b.1 + b.2) (q := 2 * b.2) (r := 2 * -a.1 + a.2) (s := 2 * a.2) (by omega) (by omega) (by
      have e1 : (2 * -b.1 + b.2) * (2 * a.2) = 2 * (a.2 * b.2) - 4 * (b.1 * a.2) := by grind
      have e2 : (2 * -a.1 + a.2) * (2 * b.2) = 2 * (a.2 * b.2) - 4 * (a.1 * b.2) := by grind
      omega)
    omega
  · rw [if_pos h1, if_neg h2]
    have e1 : 0 ≤ (2 * -a.1 + a.2) / (2 * a.2) := Int.ediv_nonneg (by omega) (by omega)
    have e2 : 0 ≤ (2 * b.1 + b.2) / (2 * b.2) := Int.ediv_nonneg (by omega) (by omega)
    omega
  · have e1 := Int.mul_nonneg (show 0 ≤ a.1 by omega) (show 0 ≤ b.2 by omega)
    have e2 := Int.mul_pos (show 0 < -b.1 by omega) (show 0 < a.2 by omega)
    rw [Int.neg_mul] at e2
    omega
  · rw [if_neg h1, if_neg h2]
    exact div_mono (by omega) (by omega) (by
      have e1 : (2 * a.1 + a.2) * (2 * b.2) = 2 * (a.2 * b.2) + 4 * (a.1 * b.2) := by grind
      have e2 : (2 * b.1 + b.2) * (2 * a.2) = 2 * (a.2 * b.2) + 4 * (b.1 * a.2) := by grind
      omega)
theorem near {p a d n q : Int} (hd : 1 ≤ d) (e : n = p) (h1 : n * d ≤ a) (h2 : a < n * d + d) (h3 : 2 * (q * d) ≤ 2 * a + d) (h4 : 2 * a < 2 * (q * d) + d + 0 ∨ 2 * a ≤ 2 * (q * d) + d) : q = n ∨ q = n + 1 := by
  rcases Int.lt_trichotomy q n with h | h | h
  · have := Int.mul_le_mul_of_nonneg_right (show q ≤ n - 1 by omega) (show 0 ≤ d by omega)
    rw [Int.sub_mul] at this
    omega
  · exact .inl h
  · rcases Int.lt_or_le (n + 1) q with h5 | h5
    · have := Int.mul_le_mul_of_nonneg_right (show n + 2 ≤ q by omega) (show 0 ≤ d by omega)
      rw [Int.add_mul] at this
      omega
    · exact .inr (by omega)
theorem round_near {a : F2} (ha : validF a = true) : roundR a = floorR a ∨ roundR a = floorR a + 1 := by
  obtain ⟨_, _, pa, _⟩ := ord_parts ha
  unfold roundR floorR
  rw [ha]
  simp only [if_true]
  have f1 : a.1 / a.2 * a.2 ≤ a.1 := Int.ediv_mul_le a.1 (by omega)
  have f2 : a.1 < a.1 / a.2 * a.2 + a.2 := by have h := Int.lt_ediv_add_one_mul_self a.1 (show 0 < a.2 by omega); rw [Int.add_mul] at h; omega
  by_cases h1 : a.1 < 0
  · rw [if_pos h1]
    have g1 : (2 * -a.1 + a.2) / (2 * a.2) * (2 * a.2) ≤ 2 * -a.1 + a.2 := Int.ediv_mul_le _ (by omega)
    have g2 : 2 * -a.1 + a.2 < (2 * -a.1 + a.2) / (2 * a.2) * (2 * a.2) + 2 * a.2 := by have h := Int.lt_ediv_add_one_mul_self (2 * -a.1 + a.2) (show 0 < 2 * a.2 by omega); rw [Int.add_mul] at h; omega
    generalize (2 * -a.1 + a.2) / (2 * a.2) = q at *
    have e : q * (2 * a.2) = 2 * (q * a.2) := by grind
    have e2 : -q * a.2 = -(q * a.2) := Int.neg_mul _ _
    exact near (p := a.1 / a.2) (a := a.1) (d := a.2) pa rfl f1 f2 (by omega) (by omega)
  · rw [if_neg h1]
    have g1 : (2 * a.1 + a.2) / (2 * a.2) * (2 * a.2) ≤ 2 * a.1 + a.2 := Int.ediv_mul_le _ (by omega)
    have g2 : 2 * a.1 + a.2 < (2 * a.1 + a.2) / (2 * a.2) * (2 * a.2) + 2 * a.2 := by have h := Int.lt_ediv_add_one_mul_self (2 * a.1 + a.2) (show 0 < 2 * a.2 by omega); rw [Int.add_mul] at h; omega
    generalize (2 * a.1 + a.2) / (2 * a.2) = q at *
    have e : q * (2 * a.2) = 2 * (q * a.2) := by grind
    exact near (p := a.1 / a.2) (a := a.1) (d := a.2) pa rfl f1 f2 (by omega) (by omega)
theorem floorR_bd {a : F2} (ha : validF a = true) : -1000000000000000000 ≤ floorR a ∧ floorR a ≤ 1000000000000000000 := by
  obtain ⟨_, _, pa, b1, b2⟩ := ord_parts ha
  unfold floorR
  rw [ha]
  simp only [if_true]
  constructor
  · refine (Int.le_ediv_iff_mul_le (by omega)).2 ?_
    have := Int.mul_nonneg (show (0 : Int) ≤ 1000000000000000000 by omega) (show 0 ≤ a.2 - 1 by omega)
    rw [Int.mul_sub] at this
    rw [Int.neg_mul]
    omega
  · have : a.1 / a.2 < 1000000000000000001 := (Int.ediv_lt_iff_lt_mul (by omega)).2 (by
      have := Int.mul_nonneg (show (0 : Int) ≤ 1000000000000000001 by omega) (show 0 ≤ a.2 - 1 by omega)
      rw [Int.mul_sub] at this
      omega)
    omega
end Go.Proofs.YtinnlahmlepeeaaDoor
