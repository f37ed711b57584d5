/- Numbers of 128 bits, and fractions in lowest terms: plain mathematics. -/
import Derived.WalkKit
import Derived.Lib.Hide
namespace Go.Proofs.YtinnlahmlepeeaaDoor
/-- The halves of a number of 128 bits. -/
def whi (z : Int) : Int := z % 340282366920938463463374607431768211456 / 18446744073709551616
def wlo (z : Int) : Int := z % 18446744073709551616
theorem whi_bd (z : Int) : 0 ≤ whi z ∧ whi z ≤ 18446744073709551615 := by unfold whi; omega
theorem wlo_bd (z : Int) : 0 ≤ wlo z ∧ wlo z ≤ 18446744073709551615 := by unfold wlo; omega
/-- Between the least and the greatest number of 127 bits and a sign. -/
def In127 (z : Int) : Prop := -170141183460469231731687303715884105728 ≤ z ∧ z < 170141183460469231731687303715884105728
theorem w_nat (p : Nat) (h : p < 340282366920938463463374607431768211456) : whi p = ((p / 18446744073709551616 : Nat) : Int) ∧ wlo p = ((p % 18446744073709551616 : Nat) : Int) := by
  unfold whi wlo; omega
/-- 0 - z in two halves, with the borrow of the lower one. -/
theorem w_neg (z : Int) : wlo (-z) = (0 + 18446744073709551616 - wlo z - 0) % 18446744073709551616 ∧
    whi (-z) = (0 + 18446744073709551616 - whi z - (if 0 < wlo z + 0 then 1 else 0)) % 18446744073709551616 := by
  unfold whi wlo
  refine ⟨by omega, ?_⟩
  split <;> omega
theorem w_add (y z : Int) : wlo (y + z) = (wlo y + wlo z + 0) % 18446744073709551616 ∧
    whi (y + z) = (whi y + whi z + (wlo y + wlo z + 0) / 18446744073709551616) % 18446744073709551616 := by
  unfold whi wlo
  exact ⟨by omega, by omega⟩
theorem w_sgn {z : Int} (h : In127 z) : (whi z / 9223372036854775808 = 1 ↔ z < 0) := by
  obtain ⟨h1, h2⟩ := h
  unfold whi
  omega
theorem w_zero {z : Int} (h : In127 z) : (whi z = 0 ∧ wlo z = 0) ↔ z = 0 := by
  obtain ⟨h1, h2⟩ := h
  unfold whi wlo
  omega
theorem w_fits {z : Int} (h0 : 0 ≤ z) (h : In127 z) : (whi z = 0 ∧ wlo z < 1000000000000000000) ↔ z < 1000000000000000000 := by
  obtain ⟨h1, h2⟩ := h
  unfold whi wlo
  omega
/-- The lower half as a signed number. -/
theorem w_narrow {z : Int} (h1 : -1000000000000000000 < z) (h2 : z < 1000000000000000000) : (if 9223372036854775808 ≤ wlo z then wlo z - 18446744073709551616 else wlo z) = z := by
  unfold wlo
  split <;> omega
/-- The two steps of a division by a number of 64 bits. -/
theorem w_over {z d : Int} (h0 : 0 ≤ z) (hz : In127 z) (hd : 0 < d) : whi (z / d) = whi z / d ∧ wlo (z / d) = (whi z % d * 18446744073709551616 + wlo z) / d := by
  obtain ⟨h1, h2⟩ := hz
  have e1 : whi z = z / 18446744073709551616 := by unfold whi; omega
  have e2 : wlo z = z % 18446744073709551616 := rfl
  have hq : z / d / 18446744073709551616 = z / 18446744073709551616 / d := by
    rw [Int.ediv_ediv_of_nonneg (by omega), Int.ediv_ediv_of_nonneg (by omega), Int.mul_comm]
  have hle : z / d ≤ z := Int.ediv_le_self _ h0
  have hge : 0 ≤ z / d := Int.ediv_nonneg h0 (by omega)
  refine ⟨?_, ?_⟩
  · rw [e1, ← hq]; unfold whi; omega
  · rw [e1, e2]
    have h3 : z / 18446744073709551616 % d * 18446744073709551616 + z % 18446744073709551616 = z - (z / 18446744073709551616 / d) * 18446744073709551616 * d := by
      have := Int.emod_def (z / 18446744073709551616) d
      have h4 := Int.mul_ediv_add_emod z 18446744073709551616
      rw [this, Int.sub_mul]
      have : d * (z / 18446744073709551616 / d) * 18446744073709551616 = z / 18446744073709551616 / d * 18446744073709551616 * d := by
        rw [Int.mul_comm d, Int.mul_assoc, Int.mul_comm d, ← Int.mul_assoc]
      omega
    rw [h3, Int.sub_mul_ediv_right _ _ (by omega), ← hq]
    unfold wlo
    omega
theorem w_mod {z d : Int} (h0 : 0 ≤ z) (hz : In127 z) : (whi z % d * 18446744073709551616 + wlo z) % d = z % d := by
  obtain ⟨h1, h2⟩ := hz
  have e1 : whi z = z / 18446744073709551616 := by unfold whi; omega
  have e2 : wlo z = z % 18446744073709551616 := rfl
  have h4 := Int.mul_ediv_add_emod z 18446744073709551616
  rw [e1, e2]
  have : z / 18446744073709551616 % d = z / 18446744073709551616 - d * (z / 18446744073709551616 / d) := Int.emod_def _ _
  rw [this, Int.sub_mul]
  have h3 : z / 18446744073709551616 * 18446744073709551616 - d * (z / 18446744073709551616 / d) * 18446744073709551616 + z % 18446744073709551616 = z - d * (z / 18446744073709551616 / d * 18446744073709551616) := by
    rw [Int.mul_assoc]; omega
  rw [h3, Int.sub_mul_emod_self_left]
end Go.Proofs.YtinnlahmlepeeaaDoor
