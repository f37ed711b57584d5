/- The simplest fraction of a range, by continued fractions: plain mathematics. -/
import Derived.Test.YtinnlahmlepeeaaDoorFraN
namespace Go.Proofs.YtinnlahmlepeeaaDoor
/-- The simplest fraction from a to b, both greater than 0. -/
def unfN : Nat → F2 → F2 → F2
  | 0, a, _ => a
  | k + 1, a, b => if a.2 = 1 then a else if a.1 / a.2 < b.1 / b.2 then (a.1 / a.2 + 1, 1) else
      (a.1 / a.2 * (unfN k (b.2, b.1 % b.2) (a.2, a.1 % a.2)).1 + (unfN k (b.2, b.1 % b.2) (a.2, a.1 % a.2)).2, (unfN k (b.2, b.1 % b.2) (a.2, a.1 % a.2)).1)
/-- Two fractions in lowest terms, greater than 0, in their order. -/
structure Rng (a b : F2) : Prop where
  a1 : 0 < a.1
  a2 : 0 < a.2
  b1 : 0 < b.1
  b2 : 0 < b.2
  ca : Nat.gcd a.1.natAbs a.2.natAbs = 1
  cb : Nat.gcd b.1.natAbs b.2.natAbs = 1
  le : a.1 * b.2 ≤ b.1 * a.2
theorem gcd_emod {x y : Int} (hx : 0 < x) (h : Nat.gcd x.natAbs y.natAbs = 1) : Nat.gcd y.natAbs (x % y).natAbs = 1 := by
  rw [Int.natAbs_emod_of_nonneg (Int.le_of_lt hx), Nat.gcd_comm, ← Nat.gcd_rec, Nat.gcd_comm]
  exact h
theorem Rng.next {a b : F2} (h : Rng a b) (h1 : a.2 ≠ 1) (h2 : ¬ a.1 / a.2 < b.1 / b.2) : Rng (b.2, b.1 % b.2) (a.2, a.1 % a.2) ∧ a.1 / a.2 = b.1 / b.2 := by
  obtain ⟨a1, a2, b1, b2, ca, cb, le⟩ := h
  have ea := Int.mul_ediv_add_emod a.1 a.2
  have eb := Int.mul_ediv_add_emod b.1 b.2
  have ra := Int.emod_nonneg a.1 (show a.2 ≠ 0 by omega)
  have rb := Int.emod_nonneg b.1 (show b.2 ≠ 0 by omega)
  have la := Int.emod_lt_of_pos a.1 a2
  have lb := Int.emod_lt_of_pos b.1 b2
  have ga := gcd_emod a1 ca
  have gb := gcd_emod b1 cb
  have pa : 0 < a.1 % a.2 := by
    rcases Int.lt_or_le 0 (a.1 % a.2) with h | h
    · exact h
    · exfalso
      have : a.1 % a.2 = 0 := by omega
      rw [this] at ga
      simp at ga
      omega
  have hle : a.1 / a.2 ≤ b.1 / b.2 := by
    rw [Int.le_ediv_iff_mul_le b2]
    have h3 : a.1 / a.2 * a.2 ≤ a.1 := Int.ediv_mul_le _ (by omega)
    have h4 : a.1 / a.2 * a.2 * b.2 ≤ a.1 * b.2 := Int.mul_le_mul_of_nonneg_right h3 (Int.le_of_lt b2)
    have h5 : (a.1 / a.2 * b.2) * a.2 ≤ b.1 * a.2 := by rw [Int.mul_right_comm]; omega
    exact Int.le_of_mul_le_mul_right h5 a2
  have he : a.1 / a.2 = b.1 / b.2 := by omega
  generalize hf : a.1 / a.2 = f at *
  generalize hg : b.1 / b.2 = g at *
  subst he
  generalize hr : a.1 % a.2 = r at *
  generalize hs : b.1 % b.2 = s at *
  have key : r * b.2 ≤ s * a.2 := by
    rw [← ea, ← eb] at le
    have e1 : (a.2 * f + r) * b.2 = a.2 * f * b.2 + r * b.2 := Int.add_mul _ _ _
    have e2 : (b.2 * f + s) * a.2 = a.2 * f * b.2 + s * a.2 := by rw [Int.add_mul]; congr 1; grind
    omega
  have ps : 0 < s := by
    rcases Int.lt_or_le 0 s with h | h
    · exact h
    · exfalso
      have h0 : s = 0 := by omega
      rw [h0, Int.zero_mul] at key
      have := Int.mul_pos pa b2
      omega
  exact ⟨⟨b2, ps, a2, pa, gb, ga, by show b.2 * r ≤ a.2 * s; rw [Int.mul_comm b.2 r, Int.mul_comm a.2 s]; exact key⟩, rfl⟩
/-- It is no greater than both, part by part, and enough steps find it. -/
theorem unfN_le : ∀ (k : Nat) (a b : F2), Rng a b → a.2.natAbs + b.2.natAbs ≤ k → (1 ≤ (unfN k a b).1 ∧ 1 ≤ (unfN k a b).2) ∧ ((unfN k a b).1 ≤ a.1 ∧ (unfN k a b).2 ≤ a.2) ∧ ((unfN k a b).1 ≤ b.1 ∧ (unfN k a b).2 ≤ b.2) := by
  intro k
  induction k with
  | zero => intro a b h hk; exfalso; have := h.a2; omega
  | succ k ih =>
    intro a b h hk
    have h' := h
    obtain ⟨a1, a2, b1, b2, ca, cb, le⟩ := h
    unfold unfN
    by_cases h1 : a.2 = 1
    · rw [if_pos h1]
      rw [h1, Int.mul_one] at le
      have : a.1 * 1 ≤ a.1 * b.2 := Int.mul_le_mul_of_nonneg_left (by omega) (by omega)
      refine ⟨⟨by omega, by omega⟩, ⟨by omega, by omega⟩, by omega, by omega⟩
    · rw [if_neg h1]
      have ea := Int.mul_ediv_add_emod a.1 a.2
      have eb := Int.mul_ediv_add_emod b.1 b.2
      have f0 : 0 ≤ a.1 / a.2 := Int.ediv_nonneg (by omega) (by omega)
      have ra := Int.emod_nonneg a.1 (show a.2 ≠ 0 by omega)
      have rb := Int.emod_nonneg b.1 (show b.2 ≠ 0 by omega)
      have la := Int.emod_lt_of_pos a.1 a2
      have lb := Int.emod_lt_of_pos b.1 b2
      by_cases h2 : a.1 / a.2 < b.1 / b.2
      · rw [if_pos h2]
        have ga := gcd_emod a1 ca
        have pa : 0 < a.1 % a.2 := by
          rcases Int.lt_or_le 0 (a.1 % a.2) with h | h
          · exact h
          · exfalso
            have : a.1 % a.2 = 0 := by omega
            rw [this] at ga
            simp at ga
            omega
        have m1 : 1 * (a.1 / a.2) ≤ a.2 * (a.1 / a.2) := Int.mul_le_mul_of_nonneg_right (by omega) f0
        have m2 : b.2 * (a.1 / a.2 + 1) ≤ b.2 * (b.1 / b.2) := Int.mul_le_mul_of_nonneg_left (by omega) (by omega)
        have m3 : 1 * (a.1 / a.2 + 1) ≤ b.2 * (a.1 / a.2 + 1) := Int.mul_le_mul_of_nonneg_right (by omega) (by omega)
        dsimp only
        refine ⟨⟨by omega, by omega⟩, ⟨by omega, by omega⟩, by omega, by omega⟩
      · rw [if_neg h2]
        obtain ⟨hn, hfg⟩ := h'.next h1 h2
        obtain ⟨⟨i1, i2⟩, ⟨i3, i4⟩, i5, i6⟩ := ih _ _ hn (by show (b.1 % b.2).natAbs + (a.1 % a.2).natAbs ≤ k; omega)
        generalize unfN k (b.2, b.1 % b.2) (a.2, a.1 % a.2) = i at *
        dsimp only at *
        have m1 : a.1 / a.2 * i.1 ≤ a.1 / a.2 * a.2 := Int.mul_le_mul_of_nonneg_left i5 f0
        have m2 : a.1 / a.2 * i.1 ≤ a.1 / a.2 * b.2 := Int.mul_le_mul_of_nonneg_left i3 f0
        have m3 : 0 ≤ a.1 / a.2 * i.1 := Int.mul_nonneg f0 (by omega)
        rw [Int.mul_comm] at ea eb
        rw [← hfg] at eb
        refine ⟨⟨by omega, by omega⟩, ⟨by omega, by omega⟩, by omega, by omega⟩
end Go.Proofs.YtinnlahmlepeeaaDoor
