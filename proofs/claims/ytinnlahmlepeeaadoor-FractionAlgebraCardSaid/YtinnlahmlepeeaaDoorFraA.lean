/- Contracts of fraction's small functions: sizes, products, numbers of 128 bits. -/
import Derived.Test.YtinnlahmlepeeaaDoorProg
import Derived.Test.YtinnlahmlepeeaaDoorKit
import Derived.Test.YtinnlahmlepeeaaDoorFraM
import Derived.Test.YtinnlahmlepeeaaDoorLay1
namespace Go.Proofs.YtinnlahmlepeeaaDoor
open Go.RowKit
theorem wrapu_in {n : Int} (h1 : 0 ≤ n) (h2 : n < 18446744073709551616) : IntKind.u64.wrap n = n := by rw [IntKind.wrap_u64]; omega
def In64 (n : Int) : Prop := -9223372036854775808 ≤ n ∧ n < 9223372036854775808
def InU (n : Int) : Prop := 0 ≤ n ∧ n < 18446744073709551616
theorem mul64_any (x y : Int) (hx : InU x) (hy : InU y) (w : World) : Calls Tryd.prog 65 #[.int .u64 x, .int .u64 y] w fun e w' => e = .returned (.tuple #[.int .u64 (whi (x * y)), .int .u64 (wlo (x * y))]) ∧ w' = w := by
  obtain ⟨a, rfl⟩ := Int.eq_ofNat_of_zero_le hx.1
  obtain ⟨b, rfl⟩ := Int.eq_ofNat_of_zero_le hy.1
  obtain ⟨_, hx⟩ := hx
  obtain ⟨_, hy⟩ := hy
  have h := Go.Proofs.Any.bits_Mul64 Tryd.mulL a b (by omega) (by omega) w
  have hp : a * b < 340282366920938463463374607431768211456 := by
    have : a * b ≤ 18446744073709551615 * 18446744073709551615 := Nat.mul_le_mul (by omega) (by omega)
    omega
  obtain ⟨e1, e2⟩ := w_nat (a * b) hp
  rw [← Int.natCast_mul, e1, e2]
  exact h
theorem okP {x x' y y' : Int} {w : World} (h1 : x = x') (h2 : y = y') : (Result.ok (Next.value (.tuple #[.int .u64 x, .int .u64 y])) w) = Result.ok (Next.value (.tuple #[.int .u64 x', .int .u64 y'])) w := by rw [h1, h2]
/-- The borrow of 0 - y. -/
def bor (y : Int) : Int := if 0 < y then 1 else 0
theorem sub64_lo (z : Int) (w : World) : (callFunc 68 #[.int .u64 0, .int .u64 (wlo z), .int .u64 0]).run Tryd.prog w = .ok (.value (.tuple #[.int .u64 (wlo (-z)), .int .u64 (bor (wlo z))])) w := by
  obtain ⟨a, ha⟩ := Int.eq_ofNat_of_zero_le (wlo_bd z).1
  have h := Go.Proofs.Any7.bits_Sub64 Tryd.subL 0 a 0 (by omega) w
  have e := (w_neg z).1
  rw [e, ha]
  have hl := (wlo_bd z).2
  refine h.trans (okP (by omega) ?_)
  unfold bor
  by_cases h0 : 0 < a
  · rw [if_pos (by omega), if_pos (by omega)]; rfl
  · rw [if_neg (by omega), if_neg (by omega)]; rfl
theorem sub64_hi (z : Int) : ∃ x : Int, ∀ w, (callFunc 68 #[.int .u64 0, .int .u64 (whi z), .int .u64 (bor (wlo z))]).run Tryd.prog w = .ok (.value (.tuple #[.int .u64 (whi (-z)), .int .u64 x])) w := by
  obtain ⟨a, ha⟩ := Int.eq_ofNat_of_zero_le (whi_bd z).1
  have hb : ∃ b : Nat, bor (wlo z) = b ∧ b ≤ 1 ∧ (if 0 < wlo z + 0 then (1 : Int) else 0) = b := by
    unfold bor
    by_cases h : 0 < wlo z
    · exact ⟨1, by rw [if_pos h]; rfl, by omega, by rw [if_pos (by omega)]; rfl⟩
    · exact ⟨0, by rw [if_neg h]; rfl, by omega, by rw [if_neg (by omega)]; rfl⟩
  obtain ⟨b, hb1, hb2, hb3⟩ := hb
  have h := Go.Proofs.Any7.bits_Sub64 Tryd.subL 0 a b hb2
  have e := (w_neg z).2
  rw [hb3] at e
  refine ⟨((if 0 < a + b then 1 else 0 : Nat) : Int), fun w => ?_⟩
  rw [e, ha, hb1]
  have hl := (whi_bd z).2
  exact (h w).trans (okP (by omega) rfl)
theorem add64_lo (y z : Int) (w : World) : (callFunc 73 #[.int .u64 (wlo y), .int .u64 (wlo z), .int .u64 0]).run Tryd.prog w = .ok (.value (.tuple #[.int .u64 (wlo (y + z)), .int .u64 ((wlo y + wlo z) / 18446744073709551616)])) w := by
  obtain ⟨a, ha⟩ := Int.eq_ofNat_of_zero_le (wlo_bd y).1
  obtain ⟨b, hb⟩ := Int.eq_ofNat_of_zero_le (wlo_bd z).1
  have h := Go.Proofs.Any7.bits_Add64 Tryd.addL a b 0 (by omega) w
  have e := (w_add y z).1
  rw [e, ha, hb]
  exact h.trans (okP (by omega) (by omega))
theorem add64_hi (y z : Int) : ∃ x : Int, ∀ w, (callFunc 73 #[.int .u64 (whi y), .int .u64 (whi z), .int .u64 ((wlo y + wlo z) / 18446744073709551616)]).run Tryd.prog w = .ok (.value (.tuple #[.int .u64 (whi (y + z)), .int .u64 x])) w := by
  obtain ⟨a, ha⟩ := Int.eq_ofNat_of_zero_le (whi_bd y).1
  obtain ⟨b, hb⟩ := Int.eq_ofNat_of_zero_le (whi_bd z).1
  obtain ⟨c, hc, hc1⟩ : ∃ c : Nat, (wlo y + wlo z) / 18446744073709551616 = c ∧ c ≤ 1 := by
    have := wlo_bd y; have := wlo_bd z
    exact ⟨((wlo y + wlo z) / 18446744073709551616).toNat, by omega, by omega⟩
  have h := Go.Proofs.Any7.bits_Add64 Tryd.addL a b c hc1
  have e := (w_add y z).2
  rw [Int.add_zero, hc] at e
  refine ⟨(((a + b + c) / 18446744073709551616 : Nat) : Int), fun w => ?_⟩
  rw [e, ha, hb, hc]
  exact (h w).trans (okP (by omega) (by omega))
theorem size_any (n : Int) (h : In64 n) (w : World) : Calls Tryd.prog 64 #[.int .i64 n] w fun e w' => e = .returned (.int .u64 (n.natAbs : Int)) ∧ w' = w := by
  obtain ⟨h1, h2⟩ := h
  by_cases h0 : n < 0
  · have d0 : decide (n < 0) = true := by simpa using h0
    have e1 : IntKind.u64.wrap n = n + 18446744073709551616 := by rw [IntKind.wrap_u64]; omega
    have e2 : IntKind.u64.wrap (-(n + 18446744073709551616)) = (n.natAbs : Int) := by rw [IntKind.wrap_u64]; omega
    go_enter Tryd.func64, Tryd.ntmps64
    go_wp2
    go_ret
    exact ⟨ret_int (by omega), rfl⟩
  · have d0 : decide (n < 0) = false := by simpa using h0
    have e1 : IntKind.u64.wrap n = n := by rw [IntKind.wrap_u64]; omega
    go_enter Tryd.func64, Tryd.ntmps64
    go_wp2
    go_ret
    exact ⟨ret_int (by omega), rfl⟩
end Go.Proofs.YtinnlahmlepeeaaDoor
