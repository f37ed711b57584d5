/- One digit of a long division by a number of two digits of 32 bits (the walk of math/bits.Div64). -/
import Derived.Test.YtinnlahmlepeeaaDoorFraM
namespace Go.Proofs.YtinnlahmlepeeaaDoor
/-- Where the digit tried is too great, the digit below is not too small. -/
theorem digit_less {u y1 y0 u1 q r : Int} (hy : 0 < y1 * 4294967296 + y0) (huy : u < y1 * 4294967296 + y0) (h1 : u1 < 4294967296) (hu : u = q * y1 + r)
    (hc : 4294967296 ≤ q ∨ 4294967296 * r + u1 < q * y0) : (u * 4294967296 + u1) / (y1 * 4294967296 + y0) ≤ q - 1 := by
  have h : u * 4294967296 + u1 < q * (y1 * 4294967296 + y0) := by
    rcases hc with h | h
    · have e1 : 4294967296 * (y1 * 4294967296 + y0) ≤ q * (y1 * 4294967296 + y0) := Int.mul_le_mul_of_nonneg_right h (Int.le_of_lt hy)
      omega
    · have e2 : q * (y1 * 4294967296 + y0) = (q * y1) * 4294967296 + q * y0 := by rw [Int.mul_add, ← Int.mul_assoc]
      omega
  have := Int.ediv_lt_of_lt_mul hy h
  omega
/-- Where it is not, it is the digit, or less. -/
theorem digit_most {u y1 y0 u1 q r : Int} (hy : 0 < y1 * 4294967296 + y0) (hu : u = q * y1 + r) (hc : q * y0 ≤ 4294967296 * r + u1) : q ≤ (u * 4294967296 + u1) / (y1 * 4294967296 + y0) := by
  have e2 : q * (y1 * 4294967296 + y0) = (q * y1) * 4294967296 + q * y0 := by rw [Int.mul_add, ← Int.mul_assoc]
  exact Int.le_ediv_of_mul_le hy (by omega)
/-- Where the rest has grown beyond 32 bits, too. -/
theorem digit_break {u y1 y0 u1 q r : Int} (hy1 : 0 < y1) (h0 : 0 ≤ y0) (h0' : y0 < 4294967296) (huy : u < y1 * 4294967296 + y0) (hu1 : 0 ≤ u1) (hq : 0 ≤ q) (hu : u = q * y1 + r) (hr : 4294967296 ≤ r) :
    q < 4294967296 ∧ q * y0 ≤ 4294967296 * r + u1 := by
  have hq2 : q < 4294967296 := by
    rcases Int.lt_or_le q 4294967296 with h | h
    · exact h
    · have := Int.mul_le_mul_of_nonneg_right h (Int.le_of_lt hy1)
      omega
  refine ⟨hq2, ?_⟩
  have : q * y0 ≤ 4294967296 * 4294967296 := Int.mul_le_mul (by omega) (by omega) h0 (by omega)
  omega
/-- The digit is below the base. -/
theorem digit_base {u y u1 : Int} (hu : 0 ≤ u) (huy : u < y) (h1 : u1 < 4294967296) (h1' : 0 ≤ u1) : 0 ≤ (u * 4294967296 + u1) / y ∧ (u * 4294967296 + u1) / y < 4294967296 := by
  refine ⟨Int.ediv_nonneg (by omega) (by omega), Int.ediv_lt_of_lt_mul (by omega) ?_⟩
  have : (u + 1) * 4294967296 ≤ y * 4294967296 := Int.mul_le_mul_of_nonneg_right (by omega) (by omega)
  omega
/-- The rest behind a digit. -/
theorem digit_rest {u y u1 : Int} (hy : 0 < y) : u * 4294967296 + u1 - (u * 4294967296 + u1) / y * y = (u * 4294967296 + u1) % y ∧ 0 ≤ (u * 4294967296 + u1) % y ∧ (u * 4294967296 + u1) % y < y := by
  have h := Int.ediv_mul_add_emod (u * 4294967296 + u1) y
  exact ⟨by omega, Int.emod_nonneg _ (by omega), Int.emod_lt_of_pos _ hy⟩
/-- Two digits make the quotient. -/
theorem two_digits {u y u1 u0 : Int} (hy : 0 < y) :
    ((u * 4294967296 + u1) * 4294967296 + u0) / y = (u * 4294967296 + u1) / y * 4294967296 + ((u * 4294967296 + u1) % y * 4294967296 + u0) / y ∧
    ((u * 4294967296 + u1) * 4294967296 + u0) % y = ((u * 4294967296 + u1) % y * 4294967296 + u0) % y := by
  have h := Int.ediv_mul_add_emod (u * 4294967296 + u1) y
  generalize (u * 4294967296 + u1) / y = q at *
  generalize (u * 4294967296 + u1) % y = r at *
  have e : (u * 4294967296 + u1) * 4294967296 + u0 = (r * 4294967296 + u0) + y * (q * 4294967296) := by
    rw [← h, Int.add_mul, Int.mul_comm y, Int.mul_assoc q 4294967296 y, Int.mul_comm 4294967296 y, ← Int.mul_assoc]
    omega
  rw [e]
  exact ⟨by rw [Int.add_mul_ediv_left _ _ (by omega)]; omega, by rw [Int.add_mul_emod_self_left]⟩
/-- Shifted by s bits, a division has the same quotient, and the rest shifted. -/
theorem shifted {m d k : Int} (hk : 0 < k) : (m * k) / (d * k) = m / d ∧ (m * k) % (d * k) = m % d * k :=
  ⟨Int.mul_ediv_mul_of_pos_left _ _ hk, by rw [Int.mul_comm m, Int.mul_comm d, Int.mul_emod_mul_of_pos _ _ hk, Int.mul_comm]⟩
end Go.Proofs.YtinnlahmlepeeaaDoor
