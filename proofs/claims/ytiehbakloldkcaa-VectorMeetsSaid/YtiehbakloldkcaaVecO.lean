/- The chapter's examples of vector. -/
import Derived.Test.YtiehbakloldkcaaVecL
import Derived.Test.YtiehbakloldkcaaVecP
namespace Go.Proofs.Ytiehbakloldkcaa
open Go.RowKit
attribute [local go_sem ↓] Go.wp_at_zero Go.wp_at_succ
set_option maxHeartbeats 1000000 in
theorem awake_any (w : World) : Calls Try.prog 12 #[] w fun e w' => e = .returned (.bool true) ∧ Below w.heap.size w w' := by
  have C1 : Hid (∀ w, Calls Try.prog 22 #[.agg #[.int .i64 1, .int .i64 2, .int .i64 3], .agg #[.int .i64 4, .int .i64 5, .int .i64 6]] w fun e w' => e = .returned (.tuple #[.int .i64 32, .int .i64 0]) ∧ Below w.heap.size w w') :=
    Lib.hid fun w => by
      have h := vDot_any (1, 2, 3) (4, 5, 6) w
      rw [show dotR (1, 2, 3) (4, 5, 6) = (32, 0) by decide] at h
      exact h
  have C2 : Hid (∀ w, Calls Try.prog 23 #[.agg #[.int .i64 1, .int .i64 2, .int .i64 3], .agg #[.int .i64 4, .int .i64 5, .int .i64 6]] w fun e w' => e = .returned (.tuple #[.agg #[.int .i64 (-3), .int .i64 6, .int .i64 (-3)], .int .i64 0]) ∧ Below w.heap.size w w') :=
    Lib.hid fun w => by
      have h := vCross_any (1, 2, 3) (4, 5, 6) w
      rw [show crsR (1, 2, 3) (4, 5, 6) = ((-3, 6, -3), 0) by decide] at h
      exact h
  have C3 : Hid (∀ w, Calls Try.prog 27 #[.agg #[.int .i64 6, .int .i64 (-9), .int .i64 0]] w fun e w' => e = .returned (.tuple #[.agg #[.int .i64 2, .int .i64 (-3), .int .i64 0], .int .i64 3, .int .i64 0]) ∧ Below w.heap.size w w') :=
    Lib.hid fun w => by
      have h := vPrimitive_any (6, -9, 0) w
      rw [show prmR (6, -9, 0) = ((2, -3, 0), 3, 0) by decide] at h
      exact h
  have C4 : Hid (∀ w, Calls Try.prog 29 #[.agg #[.int .i64 0, .int .i64 0], .agg #[.int .i64 10, .int .i64 0], .agg #[.int .i64 5, .int .i64 1]] w fun e w' => e = .returned (.tuple #[.int .i64 1, .int .i64 0]) ∧ Below w.heap.size w w') :=
    Lib.hid fun w => by
      have h := vTurn_any (0, 0) (10, 0) (5, 1) w
      rw [show trnR (0, 0) (10, 0) (5, 1) = (1, 0) by decide] at h
      exact h
  have C5 : Hid (∀ w, Calls Try.prog 34 #[.agg #[.int .i64 0, .int .i64 0], .agg #[.int .i64 10, .int .i64 10], .agg #[.int .i64 0, .int .i64 10], .agg #[.int .i64 10, .int .i64 0]] w fun e w' => e = .returned (.tuple #[.int .i64 1, .int .i64 0]) ∧ Below w.heap.size w w') :=
    Lib.hid fun w => by
      have h := vMeet_any (0, 0) (10, 10) (0, 10) (10, 0) w
      rw [show metR (0, 0) (10, 10) (0, 10) (10, 0) = (1, 0) by decide] at h
      exact h
  have C6 : Hid (∀ w, Calls Try.prog 30 #[.agg #[.int .i64 0, .int .i64 0], .agg #[.int .i64 10, .int .i64 0], .agg #[.int .i64 5, .int .i64 0]] w fun e w' => e = .returned (.tuple #[.bool true, .int .i64 0]) ∧ Below w.heap.size w w') :=
    Lib.hid fun w => by
      have h := vOn_any (0, 0) (10, 0) (5, 0) w
      rw [show onvR (0, 0) (10, 0) (5, 0) = (true, 0) by decide] at h
      exact h
  have C7 : Hid (∀ w, Calls Try.prog 17 #[.agg #[.int .i64 0, .int .i64 0, .int .i64 0], .agg #[.int .i64 0, .int .i64 0, .int .i64 1]] w fun e w' => e = .returned (.int .i64 (-1)) ∧ Below w.heap.size w w') :=
    Lib.hid fun w => by
      have h := vCompare_any (0, 0, 0) (0, 0, 1) w
      rw [show cmpV (0, 0, 0) (0, 0, 1) = -1 by decide] at h
      exact h
  have q1 : ∀ w, (binOp .eql 36 (.agg #[.int .i64 (-3), .int .i64 6, .int .i64 (-3)]) (.agg #[.int .i64 (-3), .int .i64 6, .int .i64 (-3)])).run Try.prog w = .ok (.bool true) w := fun _ => by kernel_rfl
  have q2 : ∀ w, (binOp .eql 23 (.agg #[.int .i64 2, .int .i64 (-3), .int .i64 0]) (.agg #[.int .i64 2, .int .i64 (-3), .int .i64 0])).run Try.prog w = .ok (.bool true) w := fun _ => by kernel_rfl
  go_enter Try.func12, Try.ntmps12
  go_wp2_with fail
  (with_reducible refine (C1.out _).mono ?_)
  rintro e w1 ⟨rfl, hb1⟩
  go_wp2_with fail
  (with_reducible refine (C2.out _).mono ?_)
  rintro e w2 ⟨rfl, hb2⟩
  have hbb := bcall hb1 hb2
  have A1 := Lib.hid (At3.new w2 36 (-3, 6, -3))
  clear hb1 hb2
  go_wp2_with fail
  (with_reducible refine (C3.out _).mono ?_)
  rintro e w3 ⟨rfl, hb3⟩
  have A2 := Lib.hid ((A1.out.below hb3).old (.cells #[.int .i64 2, .int .i64 (-3), .int .i64 0] 23))
  have A3 := Lib.hid (At3.new w3 23 (2, -3, 0))
  have hbc := bnew (bcall (bnew hbb _) hb3) (.cells #[.int .i64 2, .int .i64 (-3), .int .i64 0] 23)
  clear hb3 hbb A1
  go_wp2_with fail
  (with_reducible refine (C4.out _).mono ?_)
  rintro e w4 ⟨rfl, hb4⟩
  have A4 := Lib.hid (A2.out.below hb4)
  have A5 := Lib.hid (A3.out.below hb4)
  have hbd := bcall hbc hb4
  clear hb4 hbc A2 A3
  go_wp2_with fail
  (with_reducible refine (C5.out _).mono ?_)
  rintro e w5 ⟨rfl, hb5⟩
  have A6 := Lib.hid (A4.out.below hb5)
  have A7 := Lib.hid (A5.out.below hb5)
  have hbe := bcall hbd hb5
  clear hb5 hbd A4 A5
  go_wp2_with fail
  (with_reducible refine (C6.out _).mono ?_)
  rintro e w6 ⟨rfl, hb6⟩
  obtain ⟨g0, g1, g2⟩ := A6.out.below hb6
  obtain ⟨k0, k1, k2⟩ := A7.out.below hb6
  dsimp only at g0 g1 g2 k0 k1 k2
  have hbf := bcall hbe hb6
  clear hb6 hbe A6 A7
  go_wp2_with fail
  (with_reducible refine (C7.out _).mono ?_)
  rintro e w7 ⟨rfl, hb7⟩
  have hbg := bcall hbf hb7
  clear hb7 hbf g0 g1 g2 k0 k1 k2
  go_wp2_with fail
  go_ret
  exact ⟨rfl, hbg⟩
end Go.Proofs.Ytiehbakloldkcaa
