/- Contracts: rounding, powers, the comparison. -/
import Derived.Test.YtinnlahmlepeeaaDoorFraI
namespace Go.Proofs.YtinnlahmlepeeaaDoor
open Go.RowKit
theorem eqU (x y u v : Int) (w : World) : (binOp .eql 48 (.agg #[.int .u64 x, .int .u64 y]) (.agg #[.int .u64 u, .int .u64 v])).run Tryd.prog w = .ok (.bool (decide (x = u ∧ y = v))) w := by
  have u45 := Tryd.underlying45
  have hS : Tryd.prog.underlying 48 = some (.struct (Tryd.prog.fieldsOf 48)) := by kernel_rfl
  have hp : Tryd.prog.stoodInHeld 48 = false := by kernel_rfl
  rw [run_eql_struct, show (10000 : Nat) = 9999 + 1 from rfl, run_equalIn_agg w 9999 48 _ _ hS hp]
  simp only [Program.fieldsOf, Tryd.underlying48]
  go_simp
  by_cases h1 : x = u <;> by_cases h2 : y = v <;> simp [h1, h2]
theorem eqF (x y : F2) (w : World) : (binOp .eql 23 (.agg #[.int .i64 x.1, .int .i64 x.2]) (.agg #[.int .i64 y.1, .int .i64 y.2])).run Tryd.prog w = .ok (.bool (decide (x = y))) w := by
  have u2 := Tryd.underlying2
  have hS : Tryd.prog.underlying 23 = some (.struct (Tryd.prog.fieldsOf 23)) := by kernel_rfl
  have hp : Tryd.prog.stoodInHeld 23 = false := by kernel_rfl
  rw [run_eql_struct, show (10000 : Nat) = 9999 + 1 from rfl, run_equalIn_agg w 9999 23 _ _ hS hp]
  simp only [Program.fieldsOf, Tryd.underlying23]
  go_simp
  obtain ⟨x1, x2⟩ := x
  obtain ⟨y1, y2⟩ := y
  by_cases h1 : x1 = y1 <;> by_cases h2 : x2 = y2 <;> simp [h1, h2]
theorem neF (x y : F2) (w : World) : (binOp .neq 23 (.agg #[.int .i64 x.1, .int .i64 x.2]) (.agg #[.int .i64 y.1, .int .i64 y.2])).run Tryd.prog w = .ok (.bool (!decide (x = y))) w := by
  have u2 := Tryd.underlying2
  have hS : Tryd.prog.underlying 23 = some (.struct (Tryd.prog.fieldsOf 23)) := by kernel_rfl
  have hp : Tryd.prog.stoodInHeld 23 = false := by kernel_rfl
  rw [run_neq_struct, show (10000 : Nat) = 9999 + 1 from rfl, run_equalIn_agg w 9999 23 _ _ hS hp]
  simp only [Program.fieldsOf, Tryd.underlying23]
  go_simp
  obtain ⟨x1, x2⟩ := x
  obtain ⟨y1, y2⟩ := y
  by_cases h1 : x1 = y1 <;> by_cases h2 : x2 = y2 <;> simp [h1, h2]
def roundR (a : F2) : Int := if validF a then (if a.1 < 0 then -((2 * (-a.1) + a.2) / (2 * a.2)) else (2 * a.1 + a.2) / (2 * a.2)) else 0
theorem round_le {n d : Int} (h0 : 0 ≤ n) (h1 : n < 1000000000000000000) (hd : 1 ≤ d) : 0 ≤ (2 * n + d) / (2 * d) ∧ (2 * n + d) / (2 * d) ≤ 1000000000000000000 := by
  refine ⟨Int.ediv_nonneg (by omega) (by omega), ?_⟩
  have h3 : (2 * n + d) / (2 * d) < 1000000000000000001 := Int.ediv_lt_of_lt_mul (by omega) (by
    have : 1 * (1000000000000000001 * 2 - 1) ≤ d * (1000000000000000001 * 2 - 1) := Int.mul_le_mul_of_nonneg_right hd (by omega)
    omega)
  omega
theorem round_pos (a : F2) (ha : In64 a.1 ∧ In64 a.2) (hv : validF a = true) (hn : ¬ a.1 < 0) (w : World) : Calls Tryd.prog 30 #[.agg #[.int .i64 a.1, .int .i64 a.2]] w fun e w' => e = .returned (.int .i64 ((2 * a.1 + a.2) / (2 * a.2))) ∧ Below w.heap.size w w' := by
  have VA : Hid (∀ w, Calls Tryd.prog 14 #[.agg #[.int .i64 a.1, .int .i64 a.2]] w fun e w' => e = .returned (.bool true) ∧ Below w.heap.size w w') := Lib.hid fun w => by have := valid_any a ha.1 ha.2 w; rwa [hv] at this
  obtain ⟨a3, a4, a5, a6, a7⟩ := (validF_iff a).1 hv
  obtain ⟨a1, a2⟩ := a
  dsimp only at *
  have dd : decide (a1 < 0) = false := by simpa using hn
  have h0 : 0 ≤ a1 := by omega
  have r1 := (round_le h0 a6 a3).1
  have r2 := (round_le h0 a6 a3).2
  have dz : 2 * a2 ≠ 0 := by omega
  have w1 : IntKind.i64.wrap (2 * a1) = 2 * a1 := by rw [IntKind.wrap_i64]; omega
  have w2 : IntKind.i64.wrap (2 * a2) = 2 * a2 := by rw [IntKind.wrap_i64]; omega
  have w3 : IntKind.i64.wrap (2 * a1 + a2) = 2 * a1 + a2 := by rw [IntKind.wrap_i64]; omega
  have w4 : IntKind.i64.wrap ((2 * a1 + a2) / (2 * a2)) = (2 * a1 + a2) / (2 * a2) := by rw [IntKind.wrap_i64]; omega
  have p1 : 0 ≤ 2 * a1 + a2 := by omega
  have p2 : 0 ≤ 2 * a2 := by omega
  clear a7 hn hv ha r1 r2
  go_enter Tryd.func30, Tryd.ntmps30
  go_wp2_with fail
  (with_reducible refine (VA.out _).mono ?_)
  rintro e w1 ⟨rfl, hb⟩
  have H2 := Lib.hid ((OwnC.new w #[.int .i64 a1, .int .i64 a2] 23).below hb)
  have hb3 := bcall (bnew (Below.refl _ w) (.cells #[.int .i64 a1, .int .i64 a2] 23)) hb
  clear hb
  obtain ⟨⟨c4, c5⟩, ⟨c6, c7⟩, c8⟩ := H2.out.two
  go_wp2_with fail
  try (go_quiet (fail))
  try (go_wp2_with fail)
  go_ret
  exact ⟨by simp, by first | exact hb3 | exact below_drewN hb3 _⟩
theorem neg_valid {a : F2} (h : validF a = true) : validF (-a.1, a.2) = true := by
  rw [validF_iff] at *
  refine ⟨h.1, h.2.1, ?_, ?_, ?_⟩
  · show _ < -a.1; omega
  · show -a.1 < _; omega
  · show Nat.gcd (-a.1).natAbs a.2.natAbs = 1; rw [Int.natAbs_neg]; exact h.2.2.2.2
theorem round_any (a : F2) (ha : In64 a.1 ∧ In64 a.2) (w : World) : Calls Tryd.prog 30 #[.agg #[.int .i64 a.1, .int .i64 a.2]] w fun e w' => e = .returned (.int .i64 (roundR a)) ∧ Below w.heap.size w w' := by
  have VA : Hid (∀ w, Calls Tryd.prog 14 #[.agg #[.int .i64 a.1, .int .i64 a.2]] w fun e w' => e = .returned (.bool (validF a)) ∧ Below w.heap.size w w') := Lib.hid fun w => valid_any a ha.1 ha.2 w
  rcases h1 : validF a with _ | _
  · rw [show roundR a = 0 by unfold roundR; rw [h1]; rfl]
    rw [h1] at VA
    clear h1 ha
    obtain ⟨a1, a2⟩ := a
    dsimp only at *
    go_enter Tryd.func30, Tryd.ntmps30
    go_wp2_with fail
    (with_reducible refine (VA.out _).mono ?_)
    rintro e w9 ⟨rfl, hb⟩
    have H10 := Lib.hid ((OwnC.new w #[.int .i64 a1, .int .i64 a2] 23).below hb)
    have hb11 := bcall (bnew (Below.refl _ w) (.cells #[.int .i64 a1, .int .i64 a2] 23)) hb
    clear hb
    go_wp2_with fail
    go_ret
    exact ⟨rfl, hb11⟩
  · by_cases hn : a.1 < 0
    · have e : roundR a = -((2 * (-a.1) + a.2) / (2 * a.2)) := by unfold roundR; rw [h1, if_pos hn]; rfl
      rw [e]
      rw [h1] at VA
      obtain ⟨a3, a4, a5, a6, a7⟩ := (validF_iff a).1 h1
      have v' := valid_In64 (neg_valid h1)
      have hr := round_le (n := -a.1) (d := a.2) (by omega) (by omega) a3
      have CN : Hid (∀ w, Calls Tryd.prog 52 #[.agg #[.int .i64 a.1, .int .i64 a.2]] w fun e w' => e = .returned (.agg #[.int .i64 (-a.1), .int .i64 a.2]) ∧ Below w.heap.size w w') := Lib.hid fun w => negated_any a (by omega) (by omega) w
      have CR : Hid (∀ w, Calls Tryd.prog 30 #[.agg #[.int .i64 (-a.1), .int .i64 a.2]] w fun e w' => e = .returned (.int .i64 ((2 * (-a.1) + a.2) / (2 * a.2))) ∧ Below w.heap.size w w') := Lib.hid fun w => round_pos (-a.1, a.2) v' (neg_valid h1) (by show ¬ -a.1 < 0; omega) w
      obtain ⟨a1, a2⟩ := a
      dsimp only at *
      have dd : decide (a1 < 0) = true := by simpa using hn
      generalize (2 * (-a1) + a2) / (2 * a2) = q at *
      have wq : wrap64 (-q) = -q := by unfold wrap64; omega
      clear a7 e v' hn h1 ha
      go_enter Tryd.func30, Tryd.ntmps30
      go_wp2_with fail
      (with_reducible refine (VA.out _).mono ?_)
      rintro e w12 ⟨rfl, hb⟩
      have H13 := Lib.hid ((OwnC.new w #[.int .i64 a1, .int .i64 a2] 23).below hb)
      have hb14 := bcall (bnew (Below.refl _ w) (.cells #[.int .i64 a1, .int .i64 a2] 23)) hb
      clear hb
      obtain ⟨⟨c15, c16⟩, ⟨c17, c18⟩, c19⟩ := H13.out.two
      go_wp2_with fail
      (with_reducible refine (CN.out _).mono ?_)
      rintro e w20 ⟨rfl, hb⟩
      have H21 := Lib.hid ((H13.out).below hb)
      have hb22 := bcall hb14 hb
      clear hb hb14 H13 c15 c16 c17 c18 c19
      go_wp2_with fail
      (with_reducible refine (CR.out _).mono ?_)
      rintro e w23 ⟨rfl, hb⟩
      have H24 := Lib.hid ((H21.out).below hb)
      have hb25 := bcall hb22 hb
      clear hb hb22 H21
      go_wp2_with fail
      go_ret
      exact ⟨rfl, hb25⟩
    · have e : roundR a = (2 * a.1 + a.2) / (2 * a.2) := by unfold roundR; rw [h1, if_neg hn]; rfl
      rw [e]
      exact round_pos a ha h1 hn w
theorem sign_any (z : Int) (hz : In127 z) (w : World) : Calls Tryd.prog 57 #[.agg #[.int .u64 (whi z), .int .u64 (wlo z)]] w fun e w' => e = .returned (.int .i64 (if z < 0 then -1 else if z = 0 then 0 else 1)) ∧ Below w.heap.size w w' := by
  have CN : Hid (∀ w, Calls Tryd.prog 42 #[.agg #[.int .u64 (whi z), .int .u64 (wlo z)]] w fun e w' => e = .returned (.bool (decide (z < 0))) ∧ Below w.heap.size w w') := Lib.hid fun w => negative_any z hz w
  have HZ := Lib.hid (w_zero hz)
  have EQ : ∀ w, (binOp .eql 48 (.agg #[.int .u64 (whi z), .int .u64 (wlo z)]) (.agg #[.int .u64 0, .int .u64 0])).run Tryd.prog w = .ok (.bool (decide (whi z = 0 ∧ wlo z = 0))) w := fun w => eqU (whi z) (wlo z) 0 0 w
  clear hz
  generalize whi z = h at *
  generalize wlo z = l at *
  by_cases hn : z < 0
  · rw [show decide (z < 0) = true by simpa using hn] at CN
    rw [if_pos hn]
    clear hn
    go_enter Tryd.func57, Tryd.ntmps57
    go_wp2_with fail
    (with_reducible refine (CN.out _).mono ?_)
    rintro e w26 ⟨rfl, hb⟩
    have H27 := Lib.hid ((OwnC.new w #[.int .u64 h, .int .u64 l] 48).below hb)
    have hb28 := bcall (bnew (Below.refl _ w) (.cells #[.int .u64 h, .int .u64 l] 48)) hb
    clear hb
    go_wp2_with fail
    go_ret
    exact ⟨rfl, hb28⟩
  · rw [show decide (z < 0) = false by simpa using hn] at CN
    rw [if_neg hn]
    clear hn
    by_cases h0 : z = 0
    · rw [show decide (h = 0 ∧ l = 0) = true by simpa using HZ.out.2 h0] at EQ
      rw [if_pos h0]
      clear h0 HZ
      go_enter Tryd.func57, Tryd.ntmps57
      go_wp2_with fail
      (with_reducible refine (CN.out _).mono ?_)
      rintro e w29 ⟨rfl, hb⟩
      have H30 := Lib.hid ((OwnC.new w #[.int .u64 h, .int .u64 l] 48).below hb)
      have hb31 := bcall (bnew (Below.refl _ w) (.cells #[.int .u64 h, .int .u64 l] 48)) hb
      clear hb
      obtain ⟨⟨c32, c33⟩, ⟨c34, c35⟩, c36⟩ := H30.out.two
      go_wp2_with fail
      go_ret
      exact ⟨rfl, hb31⟩
    · rw [show decide (h = 0 ∧ l = 0) = false by simpa using fun e => h0 (HZ.out.1 e)] at EQ
      rw [if_neg h0]
      clear h0 HZ
      go_enter Tryd.func57, Tryd.ntmps57
      go_wp2_with fail
      (with_reducible refine (CN.out _).mono ?_)
      rintro e w37 ⟨rfl, hb⟩
      have H38 := Lib.hid ((OwnC.new w #[.int .u64 h, .int .u64 l] 48).below hb)
      have hb39 := bcall (bnew (Below.refl _ w) (.cells #[.int .u64 h, .int .u64 l] 48)) hb
      clear hb
      obtain ⟨⟨c40, c41⟩, ⟨c42, c43⟩, c44⟩ := H38.out.two
      go_wp2_with fail
      go_ret
      exact ⟨rfl, hb39⟩
end Go.Proofs.YtinnlahmlepeeaaDoor
