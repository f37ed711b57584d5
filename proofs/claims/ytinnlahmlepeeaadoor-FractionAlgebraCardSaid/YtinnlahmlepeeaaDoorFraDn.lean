/- What math/bits.Div64 works with: the divisor shifted till its highest bit is 1. -/
import Derived.Test.YtinnlahmlepeeaaDoorFraDm
import Derived.Test.YtinnlahmlepeeaaDoorFraT
namespace Go.Proofs.YtinnlahmlepeeaaDoor
theorem or_any {a b : Int} {n : Nat} (ha : 0 ≤ a) (hb : 0 ≤ b) (hbn : b < 2 ^ n) (h64 : a * 2 ^ n + b < 18446744073709551616) : bits .or .u64 (a * 2 ^ n) b = a * 2 ^ n + b := by
  obtain ⟨x, rfl⟩ := Int.eq_ofNat_of_zero_le ha
  obtain ⟨y, rfl⟩ := Int.eq_ofNat_of_zero_le hb
  have e0 : ((x * 2 ^ n : Nat) : Int) = (x : Int) * 2 ^ n := by rw [Int.natCast_mul, Int.natCast_pow]; rfl
  have hy : y < 2 ^ n := by have : ((y : Nat) : Int) < ((2 ^ n : Nat) : Int) := by rw [Int.natCast_pow]; exact hbn
                            omega
  rw [← e0] at h64 ⊢
  have h := bits_or_u64_nat (x * 2 ^ n) y (by omega) (by omega)
  have e : x * 2 ^ n ||| y = x * 2 ^ n + y := by
    have := Nat.shiftLeft_add_eq_or_of_lt (i := n) (b := y) hy x
    rw [Nat.shiftLeft_eq] at this
    exact this.symm
  rw [e] at h
  exact h.trans (by omega)
/-- The dividend, shifted too: a first word below the divisor, and two digits. -/
theorem norm_of {hi lo y : Int} {n : Nat} (hn : n ≤ 64) (hlt : hi < y) (h0 : 0 ≤ hi) (hl0 : 0 ≤ lo) (hl : lo < 18446744073709551616) :
    0 ≤ lo / 2 ^ (64 - n) ∧ lo / 2 ^ (64 - n) < 2 ^ n ∧ hi * 2 ^ n + lo / 2 ^ (64 - n) < y * 2 ^ n ∧ 0 ≤ hi * 2 ^ n ∧
    (hi * 18446744073709551616 + lo) * 2 ^ n = (hi * 2 ^ n + lo / 2 ^ (64 - n)) * 18446744073709551616 + lo * 2 ^ n % 18446744073709551616 := by
  have hk : (0 : Int) < 2 ^ n := Int.pow_pos (by omega)
  have hm : (0 : Int) < 2 ^ (64 - n) := Int.pow_pos (by omega)
  have hkm : (2 : Int) ^ n * 2 ^ (64 - n) = 18446744073709551616 := by rw [← Int.pow_add, show n + (64 - n) = 64 by omega]; rfl
  have a1 : 0 ≤ lo / 2 ^ (64 - n) := Int.ediv_nonneg hl0 (Int.le_of_lt hm)
  have a2 : lo / 2 ^ (64 - n) < 2 ^ n := Int.ediv_lt_of_lt_mul hm (by rw [hkm]; exact hl)
  have a3 : (hi + 1) * 2 ^ n ≤ y * 2 ^ n := Int.mul_le_mul_of_nonneg_right (by omega) (Int.le_of_lt hk)
  have a4 : lo / 2 ^ (64 - n) = lo * 2 ^ n / 18446744073709551616 := by
    rw [← hkm, Int.mul_comm (2 ^ n) (2 ^ (64 - n)), Int.mul_ediv_mul_of_pos_left _ _ hk]
  have a5 := Int.ediv_mul_add_emod (lo * 2 ^ n) 18446744073709551616
  rw [← a4] at a5
  refine ⟨a1, a2, ?_, Int.mul_nonneg h0 (Int.le_of_lt hk), ?_⟩
  · rw [Int.add_mul] at a3; omega
  · rw [Int.add_mul, Int.add_mul, Int.mul_assoc, Int.mul_comm 18446744073709551616 (2 ^ n), ← Int.mul_assoc]; omega
theorem bl_bounds : ∀ (f x : Nat), x < 2 ^ f → f ≤ 64 → x ≠ 0 → 1 ≤ Lib.bitLen x ∧ Lib.bitLen x ≤ f ∧ 2 ^ (Lib.bitLen x - 1) ≤ x ∧ x < 2 ^ Lib.bitLen x := by
  intro f
  induction f with
  | zero => intro x h1 _ h3; exact absurd (show x = 0 by omega) h3
  | succ f ih =>
    intro x h1 h2 h3
    have hx : x < 2 ^ 64 := Nat.lt_of_lt_of_le h1 (Nat.pow_le_pow_right (by omega) h2)
    rw [Lib.bitLen_half x h3 hx]
    by_cases h : x / 2 = 0
    · rw [h, show Lib.bitLen 0 = 0 by decide]
      exact ⟨by omega, by omega, by simp; omega, by simp; omega⟩
    · obtain ⟨i1, i2, i3, i4⟩ := ih (x / 2) (by rw [Nat.pow_succ] at h1; omega) (by omega) h
      have e : 2 ^ Lib.bitLen (x / 2) = 2 ^ (Lib.bitLen (x / 2) - 1) * 2 := by rw [← Nat.pow_succ]; congr 1; omega
      refine ⟨by omega, by omega, ?_, ?_⟩
      · rw [show 1 + Lib.bitLen (x / 2) - 1 = Lib.bitLen (x / 2) by omega]; omega
      · rw [Nat.add_comm, Nat.pow_succ]; omega
/-- The shift. -/
theorem shift_of {y : Int} (h0 : 0 < y) (h1 : y < 18446744073709551616) : ∃ n : Nat, n ≤ 63 ∧ 64 - (Lib.bitLen y.toNat : Int) = (n : Int) ∧ 9223372036854775808 ≤ y * 2 ^ n ∧ y * 2 ^ n < 18446744073709551616 := by
  obtain ⟨x, rfl⟩ := Int.eq_ofNat_of_zero_le (Int.le_of_lt h0)
  rw [Int.toNat_natCast]
  obtain ⟨b1, b2, b3, b4⟩ := bl_bounds 64 x (by omega) (Nat.le_refl _) (by omega)
  refine ⟨64 - Lib.bitLen x, by omega, by omega, ?_, ?_⟩
  · have e : 2 ^ (Lib.bitLen x - 1) * 2 ^ (64 - Lib.bitLen x) = 9223372036854775808 := by rw [← Nat.pow_add, show Lib.bitLen x - 1 + (64 - Lib.bitLen x) = 63 by omega]
    have := Nat.mul_le_mul_right (2 ^ (64 - Lib.bitLen x)) b3
    rw [e] at this
    have h2 : ((x * 2 ^ (64 - Lib.bitLen x) : Nat) : Int) = (x : Int) * 2 ^ (64 - Lib.bitLen x) := by rw [Int.natCast_mul, Int.natCast_pow]; rfl
    omega
  · have e : 2 ^ Lib.bitLen x * 2 ^ (64 - Lib.bitLen x) = 18446744073709551616 := by rw [← Nat.pow_add, show Lib.bitLen x + (64 - Lib.bitLen x) = 64 by omega]
    have := Nat.mul_lt_mul_of_pos_right b4 (show 0 < 2 ^ (64 - Lib.bitLen x) by exact Nat.pow_pos (by omega))
    rw [e] at this
    have h2 : ((x * 2 ^ (64 - Lib.bitLen x) : Nat) : Int) = (x : Int) * 2 ^ (64 - Lib.bitLen x) := by rw [Int.natCast_mul, Int.natCast_pow]; rfl
    omega
theorem and_mask {x : Int} (h0 : 0 ≤ x) (h1 : x < 18446744073709551616) : bits .and .u64 x 4294967295 = x % 4294967296 := by
  obtain ⟨a, rfl⟩ := Int.eq_ofNat_of_zero_le h0
  have h := bits_and_u64_nat a 4294967295 (by omega) (by omega)
  rw [show (4294967295 : Nat) = 2 ^ 32 - 1 from rfl, Nat.and_two_pow_sub_one_eq_mod] at h
  exact h.trans (by omega)
end Go.Proofs.YtinnlahmlepeeaaDoor
