/- The reference's Floor, Round. -/
import Derived.Test.YtinnlahmlepeeaaDoorFraCp
import Derived.RegionTactic
namespace Go.Proofs.YtinnlahmlepeeaaDoor
open Go.RowKit
theorem rfloor_any (a : F2) (h1 : validF a = true) (w : World) : Calls Tryd.prog 31 #[.agg #[.int .i64 a.1, .int .i64 a.2]] w fun e w' => e = .returned (.int .i64 (floorR a)) ∧ Below w.heap.size w w' := by
  rw [show floorR a = a.1 / a.2 by unfold floorR; rw [h1]; rfl]
  obtain ⟨a3, a4, a5, a6, a7⟩ := (validF_iff a).1 h1
  obtain ⟨a1, a2⟩ := a
  dsimp only at *
  have K := floor_of (n := a1) (d := a2) (by omega)
  have hq : (a1.tdiv a2).natAbs ≤ a1.natAbs := by rw [Int.natAbs_tdiv]; exact Nat.div_le_self _ _
  have w1 : IntKind.i64.wrap (a1.tdiv a2) = a1.tdiv a2 := by rw [IntKind.wrap_i64]; omega
  have w2 : IntKind.i64.wrap (a1.tdiv a2 - 1) = a1.tdiv a2 - 1 := by rw [IntKind.wrap_i64]; omega
  have w3 : wrap64 (a1.tdiv a2 - 1) = a1.tdiv a2 - 1 := by unfold wrap64; omega
  have dz : a2 ≠ 0 := by omega
  have dm : a2 ≠ -1 := by omega
  generalize a1 / a2 = fl at *
  have KK := Lib.hid K
  clear K hq a7 h1 a3 a4 a5 a6
  by_cases hm : a1.tmod a2 < 0
  · have dd : decide (a1.tmod a2 < 0) = true := by simpa using hm
    have HE := Lib.hid (KK.out.1 hm)
    clear hm
    go_enter Tryd.func31, Tryd.ntmps31
    go_wp2_with fail
    go_ret
    exact ⟨ret_int HE.out, (bnew (Below.refl _ w) (.cells #[.int .i64 a1, .int .i64 a2] 23))⟩
  · have dd : decide (a1.tmod a2 < 0) = false := by simpa using hm
    have HE := Lib.hid (KK.out.2 hm)
    have hm' : 0 ≤ a1.tmod a2 := by omega
    clear hm
    go_enter Tryd.func31, Tryd.ntmps31
    go_wp2_with fail
    go_ret
    exact ⟨ret_int HE.out, (bnew (Below.refl _ w) (.cells #[.int .i64 a1, .int .i64 a2] 23))⟩
theorem round_split {n d : Int} (hn : 0 ≤ n) (hd : 0 < d) : (d ≤ 2 * n.tmod d → n.tdiv d + 1 = (2 * n + d) / (2 * d)) ∧ (¬ d ≤ 2 * n.tmod d → n.tdiv d = (2 * n + d) / (2 * d)) := by
  rw [Int.tdiv_eq_ediv_of_nonneg hn, Int.tmod_eq_emod_of_nonneg hn]
  have h3 := Int.emod_nonneg n (show d ≠ 0 by omega)
  have h4 := Int.emod_lt_of_pos n hd
  have h2 := Int.mul_ediv_add_emod n d
  generalize n / d = q at *
  generalize n % d = r at *
  have e : 2 * n + d = (2 * r + d) + 2 * d * q := by rw [← h2, Int.mul_add, Int.mul_assoc]; omega
  rw [e, Int.add_mul_ediv_left _ _ (show 2 * d ≠ 0 by omega)]
  constructor
  · intro h
    have e2 : 2 * r + d = (2 * r - d) + 2 * d * 1 := by omega
    rw [e2, Int.add_mul_ediv_left _ _ (show 2 * d ≠ 0 by omega), Int.ediv_eq_zero_of_lt (by omega) (by omega)]
    omega
  · intro h
    rw [Int.ediv_eq_zero_of_lt (by omega) (by omega)]
    omega
theorem rround_pos (a : F2) (h1 : validF a = true) (hn : ¬ a.1 < 0) (w : World) : Calls Tryd.prog 32 #[.agg #[.int .i64 a.1, .int .i64 a.2]] w fun e w' => e = .returned (.int .i64 ((2 * a.1 + a.2) / (2 * a.2))) ∧ Below w.heap.size w w' := by
  obtain ⟨a3, a4, a5, a6, a7⟩ := (validF_iff a).1 h1
  obtain ⟨a1, a2⟩ := a
  dsimp only at *
  have K := round_split (n := a1) (d := a2) (by omega) (by omega)
  rw [Int.tmod_eq_emod_of_nonneg (show 0 ≤ a1 by omega)] at K
  have hr1 := Int.emod_nonneg a1 (show a2 ≠ 0 by omega)
  have hr2 := Int.emod_lt_of_pos a1 (show 0 < a2 by omega)
  have hq : (a1.tdiv a2).natAbs ≤ a1.natAbs := by rw [Int.natAbs_tdiv]; exact Nat.div_le_self _ _
  have w1 : IntKind.i64.wrap (a1.tdiv a2) = a1.tdiv a2 := by rw [IntKind.wrap_i64]; omega
  have w2 : IntKind.i64.wrap (a1.tdiv a2 + 1) = a1.tdiv a2 + 1 := by rw [IntKind.wrap_i64]; omega
  have w3 : wrap64 (a1.tdiv a2 + 1) = a1.tdiv a2 + 1 := by unfold wrap64; omega
  have w4 : IntKind.i64.wrap (2 * (a1 % a2)) = 2 * (a1 % a2) := by rw [IntKind.wrap_i64]; omega
  have w5 : wrap64 (2 * (a1 % a2)) = 2 * (a1 % a2) := by unfold wrap64; omega
  have dz : a2 ≠ 0 := by omega
  have dm : a2 ≠ -1 := by omega
  have d0 : decide (a1 < 0) = false := by simpa using hn
  have d00 : 0 ≤ a1 := by omega
  generalize (2 * a1 + a2) / (2 * a2) = fl at *
  have KK := Lib.hid K
  clear K hq hr1 hr2 a7 h1 a3 a4 a5 a6 hn
  by_cases hm : a2 ≤ 2 * (a1 % a2)
  · have dd : decide (a2 ≤ 2 * (a1 % a2)) = true := by simpa using hm
    have HE := Lib.hid (KK.out.1 hm)
    go_enter Tryd.func32, Tryd.ntmps32
    go_wp2_with fail
    go_region
    all_goals go_wp2_with fail
    all_goals go_ret
    all_goals refine ⟨ret_int HE.out, ?_⟩
    all_goals repeat' first | (with_reducible exact Below.refl _ _) | (with_reducible assumption) | (with_reducible refine Below.drew ?_) | (with_reducible refine bnew ?_ _)
  · have dd : decide (a2 ≤ 2 * (a1 % a2)) = false := by simpa using hm
    have HE := Lib.hid (KK.out.2 hm)
    have hm' : 2 * (a1 % a2) < a2 := by omega
    clear hm
    go_enter Tryd.func32, Tryd.ntmps32
    go_wp2_with fail
    go_region
    all_goals go_wp2_with fail
    all_goals go_ret
    all_goals refine ⟨ret_int HE.out, ?_⟩
    all_goals repeat' first | (with_reducible exact Below.refl _ _) | (with_reducible assumption) | (with_reducible refine Below.drew ?_) | (with_reducible refine bnew ?_ _)
theorem rround_any (a : F2) (h1 : validF a = true) (w : World) : Calls Tryd.prog 32 #[.agg #[.int .i64 a.1, .int .i64 a.2]] w fun e w' => e = .returned (.int .i64 (roundR a)) ∧ Below w.heap.size w w' := by
  by_cases hn : a.1 < 0
  · have e : roundR a = -((2 * (-a.1) + a.2) / (2 * a.2)) := by unfold roundR; rw [h1, if_pos hn]; rfl
    rw [e]
    obtain ⟨a3, a4, a5, a6, a7⟩ := (validF_iff a).1 h1
    have hr := round_le (n := -a.1) (d := a.2) (by omega) (by omega) a3
    have CR : Hid (∀ w, Calls Tryd.prog 32 #[.agg #[.int .i64 (-a.1), .int .i64 a.2]] w fun e w' => e = .returned (.int .i64 ((2 * (-a.1) + a.2) / (2 * a.2))) ∧ Below w.heap.size w w') := Lib.hid fun w => rround_pos (-a.1, a.2) (neg_valid h1) (by show ¬ -a.1 < 0; omega) w
    obtain ⟨a1, a2⟩ := a
    dsimp only at *
    have dd : decide (a1 < 0) = true := by simpa using hn
    have v1 : wrap64 (-a1) = -a1 := by unfold wrap64; omega
    have v2 : IntKind.i64.wrap (0 - a1) = -a1 := by rw [IntKind.wrap_i64]; omega
    have v3 : wrap64 (0 - a1) = -a1 := by unfold wrap64; omega
    have v4 : IntKind.i64.wrap (-a1) = -a1 := by rw [IntKind.wrap_i64]; omega
    generalize (2 * (-a1) + a2) / (2 * a2) = q at *
    have wq : wrap64 (-q) = -q := by unfold wrap64; omega
    have wq2 : IntKind.i64.wrap (0 - q) = -q := by rw [IntKind.wrap_i64]; omega
    have wq3 : wrap64 (0 - q) = -q := by unfold wrap64; omega
    clear a7 e hn h1
    go_enter Tryd.func32, Tryd.ntmps32
    go_wp2_with fail
    (with_reducible refine (CR.out _).mono ?_)
    rintro e w1 ⟨rfl, hb⟩
    have H2 := Lib.hid ((OwnC.new w #[.int .i64 a1, .int .i64 a2] 23).below hb)
    have hb3 := bcall (bnew (Below.refl _ w) (.cells #[.int .i64 a1, .int .i64 a2] 23)) hb
    clear hb
    go_wp2_with fail
    go_ret
    exact ⟨rfl, hb3⟩
  · have e : roundR a = (2 * a.1 + a.2) / (2 * a.2) := by unfold roundR; rw [h1, if_neg hn]; rfl
    rw [e]
    exact rround_pos a h1 hn w
end Go.Proofs.YtinnlahmlepeeaaDoor
