/- The walk of VectorSegments. -/
import Derived.Test.YtiehbakloldkcaaVecO
namespace Go.Proofs.Ytiehbakloldkcaa
open Go.RowKit
theorem eqPt (x y : P2) (w : World) : (binOp .eql 46 (.agg #[.int .i64 x.1, .int .i64 x.2]) (.agg #[.int .i64 y.1, .int .i64 y.2])).run Try.prog w = .ok (.bool (decide (x = y))) w := by
  have u3 := Try.underlying3
  have hS : Try.prog.underlying 46 = some (.struct (Try.prog.fieldsOf 46)) := by kernel_rfl
  have hp : Try.prog.stoodInHeld 46 = false := by kernel_rfl
  rw [run_eql_struct, show (10000 : Nat) = 9999 + 1 from rfl, run_equalIn_agg w 9999 46 _ _ hS hp]
  simp only [Program.fieldsOf, Try.underlying46]
  go_simp
  obtain ⟨x1, x2⟩ := x
  obtain ⟨y1, y2⟩ := y
  by_cases h1 : x1 = y1 <;> by_cases h2 : x2 = y2 <;> simp [h1, h2]
theorem nePt (x y : P2) (w : World) : (binOp .neq 46 (.agg #[.int .i64 x.1, .int .i64 x.2]) (.agg #[.int .i64 y.1, .int .i64 y.2])).run Try.prog w = .ok (.bool (!decide (x = y))) w := by
  have u3 := Try.underlying3
  have hS : Try.prog.underlying 46 = some (.struct (Try.prog.fieldsOf 46)) := by kernel_rfl
  have hp : Try.prog.stoodInHeld 46 = false := by kernel_rfl
  rw [run_neq_struct, show (10000 : Nat) = 9999 + 1 from rfl, run_equalIn_agg w 9999 46 _ _ hS hp]
  simp only [Program.fieldsOf, Try.underlying46]
  go_simp
  obtain ⟨x1, x2⟩ := x
  obtain ⟨y1, y2⟩ := y
  by_cases h1 : x1 = y1 <;> by_cases h2 : x2 = y2 <;> simp [h1, h2]
theorem trnR_swap (a b c : P2) : (trnR a c b).2 = (trnR a b c).2 ∧ ((trnR a b c).1 != -(trnR a c b).1) = false := by
  have e : (inP a && (inP c && inP b)) = (inP a && (inP b && inP c)) := by cases inP a <;> cases inP b <;> cases inP c <;> rfl
  unfold trnR
  rw [e]
  split
  · exact ⟨rfl, by simp [trn_swap a b c]⟩
  · exact ⟨rfl, rfl⟩
theorem trnR_rot (a b c : P2) : trnR b c a = trnR a b c := by
  have e : (inP b && (inP c && inP a)) = (inP a && (inP b && inP c)) := by cases inP a <;> cases inP b <;> cases inP c <;> rfl
  unfold trnR
  rw [e, trn_rot]
theorem trnR_bd (a b c : P2) : -1 ≤ (trnR a b c).1 ∧ (trnR a b c).1 ≤ 1 := by
  unfold trnR
  split
  · exact trn_bd a b c
  · simp
theorem onM (a b c : P2) : (onvR a b c).2 = (metR a b c c).2 ∧ (((metR a b c c).1 = 0 ∧ (onvR a b c).1 = false) ∨ ((metR a b c c).1 = 1 ∧ (onvR a b c).1 = true)) := by
  refine ⟨rfl, ?_⟩
  unfold onvR
  have h : (metR a b c c).1 = 0 ∨ (metR a b c c).1 = 1 := by
    unfold metR
    split
    · rw [show (meetC a b c c, (0 : Int)).1 = meetC a b c c from rfl, meetC_single]
      split <;> simp
    · exact .inl rfl
  rcases h with h | h <;> rw [h] <;> simp
theorem metR_comm (a b c d : P2) : metR d c a b = metR a b c d := by
  have e : (inP d && (inP c && (inP a && inP b))) = (inP a && (inP b && (inP c && inP d))) := by cases inP a <;> cases inP b <;> cases inP c <;> cases inP d <;> rfl
  unfold metR
  rw [e, meetC_comm d c a b, meetC_flip1 a b d c]
theorem metR_flip (a b c d : P2) : metR b a d c = metR a b c d := by
  have e : (inP b && (inP a && (inP d && inP c))) = (inP a && (inP b && (inP c && inP d))) := by cases inP a <;> cases inP b <;> cases inP c <;> cases inP d <;> rfl
  unfold metR
  rw [e, meetC_flip b a d c]
theorem metR_self (a b : P2) : (metR a b a b).2 = 6 ∨ ((metR a b a b).2 = 0 ∧ decide (a = b) = true ∧ (metR a b a b).1 = 1) ∨ ((metR a b a b).2 = 0 ∧ decide (a = b) = false ∧ (metR a b a b).1 = 2) := by
  unfold metR
  split
  · right
    by_cases h : a = b
    · left; refine ⟨rfl, by simpa using h, ?_⟩; show meetC a b a b = 1; rw [meetC_self, if_pos h]
    · right; refine ⟨rfl, by simpa using h, ?_⟩; show meetC a b a b = 2; rw [meetC_self, if_neg h]
  · left; rfl
set_option maxHeartbeats 4000000 in
set_option maxRecDepth 100000 in
theorem segments_walk (a b c d : P2) (w : World) : Calls Try.prog 11 #[.agg #[.int .i64 a.1, .int .i64 a.2], .agg #[.int .i64 b.1, .int .i64 b.2], .agg #[.int .i64 c.1, .int .i64 c.2], .agg #[.int .i64 d.1, .int .i64 d.2]] w fun e w' => e = .returned (.bool true) ∧ Below w.heap.size w w' := by
  have C1 : Hid (∀ w, Calls Try.prog 29 #[.agg #[.int .i64 a.1, .int .i64 a.2], .agg #[.int .i64 b.1, .int .i64 b.2], .agg #[.int .i64 c.1, .int .i64 c.2]] w fun e w' => e = .returned (.tuple #[.int .i64 (trnR a b c).1, .int .i64 (trnR a b c).2]) ∧ Below w.heap.size w w') := Lib.hid fun w => vTurn_any a b c w
  have C2 : Hid (∀ w, Calls Try.prog 29 #[.agg #[.int .i64 a.1, .int .i64 a.2], .agg #[.int .i64 c.1, .int .i64 c.2], .agg #[.int .i64 b.1, .int .i64 b.2]] w fun e w' => e = .returned (.tuple #[.int .i64 (trnR a c b).1, .int .i64 (trnR a b c).2]) ∧ Below w.heap.size w w') := Lib.hid fun w => by
    have h := vTurn_any a c b w
    rw [(trnR_swap a b c).1] at h
    exact h
  have C3 : Hid (∀ w, Calls Try.prog 29 #[.agg #[.int .i64 b.1, .int .i64 b.2], .agg #[.int .i64 c.1, .int .i64 c.2], .agg #[.int .i64 a.1, .int .i64 a.2]] w fun e w' => e = .returned (.tuple #[.int .i64 (trnR a b c).1, .int .i64 (trnR a b c).2]) ∧ Below w.heap.size w w') := Lib.hid fun w => by
    have h := vTurn_any b c a w
    rw [trnR_rot a b c] at h
    exact h
  have C4 : Hid (∀ w, Calls Try.prog 30 #[.agg #[.int .i64 a.1, .int .i64 a.2], .agg #[.int .i64 b.1, .int .i64 b.2], .agg #[.int .i64 c.1, .int .i64 c.2]] w fun e w' => e = .returned (.tuple #[.bool (onvR a b c).1, .int .i64 (metR a b c c).2]) ∧ Below w.heap.size w w') := Lib.hid fun w => vOn_any a b c w
  have C5 : Hid (∀ w, Calls Try.prog 34 #[.agg #[.int .i64 a.1, .int .i64 a.2], .agg #[.int .i64 b.1, .int .i64 b.2], .agg #[.int .i64 c.1, .int .i64 c.2], .agg #[.int .i64 c.1, .int .i64 c.2]] w fun e w' => e = .returned (.tuple #[.int .i64 (metR a b c c).1, .int .i64 (metR a b c c).2]) ∧ Below w.heap.size w w') := Lib.hid fun w => vMeet_any a b c c w
  have C6 : Hid (∀ w, Calls Try.prog 34 #[.agg #[.int .i64 a.1, .int .i64 a.2], .agg #[.int .i64 b.1, .int .i64 b.2], .agg #[.int .i64 c.1, .int .i64 c.2], .agg #[.int .i64 d.1, .int .i64 d.2]] w fun e w' => e = .returned (.tuple #[.int .i64 (metR a b c d).1, .int .i64 (metR a b c d).2]) ∧ Below w.heap.size w w') := Lib.hid fun w => vMeet_any a b c d w
  have C7 : Hid (∀ w, Calls Try.prog 34 #[.agg #[.int .i64 d.1, .int .i64 d.2], .agg #[.int .i64 c.1, .int .i64 c.2], .agg #[.int .i64 a.1, .int .i64 a.2], .agg #[.int .i64 b.1, .int .i64 b.2]] w fun e w' => e = .returned (.tuple #[.int .i64 (metR a b c d).1, .int .i64 (metR a b c d).2]) ∧ Below w.heap.size w w') := Lib.hid fun w => by
    have h := vMeet_any d c a b w
    rw [metR_comm a b c d] at h
    exact h
  have C8 : Hid (∀ w, Calls Try.prog 34 #[.agg #[.int .i64 b.1, .int .i64 b.2], .agg #[.int .i64 a.1, .int .i64 a.2], .agg #[.int .i64 d.1, .int .i64 d.2], .agg #[.int .i64 c.1, .int .i64 c.2]] w fun e w' => e = .returned (.tuple #[.int .i64 (metR a b c d).1, .int .i64 (metR a b c d).2]) ∧ Below w.heap.size w w') := Lib.hid fun w => by
    have h := vMeet_any b a d c w
    rw [metR_flip a b c d] at h
    exact h
  have C9 : Hid (∀ w, Calls Try.prog 34 #[.agg #[.int .i64 a.1, .int .i64 a.2], .agg #[.int .i64 b.1, .int .i64 b.2], .agg #[.int .i64 a.1, .int .i64 a.2], .agg #[.int .i64 b.1, .int .i64 b.2]] w fun e w' => e = .returned (.tuple #[.int .i64 (metR a b a b).1, .int .i64 (metR a b a b).2]) ∧ Below w.heap.size w w') := Lib.hid fun w => vMeet_any a b a b w
  have t1 := (trnR_swap a b c).2
  have t2 := trnR_bd a c b
  have k1 := (onM a b c).2
  have k2 := metR_self a b
  have ee := fun w => eqPt a b w
  have en := fun w => nePt a b w
  generalize (trnR a b c).1 = m at *
  generalize (trnR a b c).2 = e0 at *
  generalize (trnR a c b).1 = n at *
  generalize (onvR a b c).1 = ob at *
  generalize (metR a b c c).1 = k at *
  generalize (metR a b c c).2 = e1 at *
  generalize (metR a b c d).1 = p at *
  generalize (metR a b c d).2 = e2 at *
  generalize (metR a b a b).1 = t at *
  generalize (metR a b a b).2 = e3 at *
  generalize decide (a = b) = dd at *
  have K1 := Lib.hid k1
  have K2 := Lib.hid k2
  clear k1 k2
  have HB0 : Hid (At2 ((((w.alloc (.cells #[.int .i64 a.1, .int .i64 a.2] 46)).alloc (.cells #[.int .i64 b.1, .int .i64 b.2] 46)).alloc (.cells #[.int .i64 c.1, .int .i64 c.2] 46)).alloc (.cells #[.int .i64 d.1, .int .i64 d.2] 46)) (w.heap.size) a) := Lib.hid ((((At2.new w 46 a).old _).old _).old _)
  have HB1 : Hid (At2 ((((w.alloc (.cells #[.int .i64 a.1, .int .i64 a.2] 46)).alloc (.cells #[.int .i64 b.1, .int .i64 b.2] 46)).alloc (.cells #[.int .i64 c.1, .int .i64 c.2] 46)).alloc (.cells #[.int .i64 d.1, .int .i64 d.2] 46)) (w.heap.size + 1) b) := Lib.hid (((At2.new2 w _ 46 b).old _).old _)
  have HB2 : Hid (At2 ((((w.alloc (.cells #[.int .i64 a.1, .int .i64 a.2] 46)).alloc (.cells #[.int .i64 b.1, .int .i64 b.2] 46)).alloc (.cells #[.int .i64 c.1, .int .i64 c.2] 46)).alloc (.cells #[.int .i64 d.1, .int .i64 d.2] 46)) (w.heap.size + 1 + 1) c) := Lib.hid ((At2.new3 w _ _ 46 c).old _)
  have HB3 : Hid (At2 ((((w.alloc (.cells #[.int .i64 a.1, .int .i64 a.2] 46)).alloc (.cells #[.int .i64 b.1, .int .i64 b.2] 46)).alloc (.cells #[.int .i64 c.1, .int .i64 c.2] 46)).alloc (.cells #[.int .i64 d.1, .int .i64 d.2] 46)) (w.heap.size + 1 + 1 + 1) d) := Lib.hid (At2.new4 w _ _ _ 46 d)
  have hb0 := b4 w (.cells #[.int .i64 a.1, .int .i64 a.2] 46) (.cells #[.int .i64 b.1, .int .i64 b.2] 46) (.cells #[.int .i64 c.1, .int .i64 c.2] 46) (.cells #[.int .i64 d.1, .int .i64 d.2] 46)
  go_enter Try.func11, Try.ntmps11
  go_wp2_with fail
  generalize ((((w.alloc (.cells #[.int .i64 a.1, .int .i64 a.2] 46)).alloc (.cells #[.int .i64 b.1, .int .i64 b.2] 46)).alloc (.cells #[.int .i64 c.1, .int .i64 c.2] 46)).alloc (.cells #[.int .i64 d.1, .int .i64 d.2] 46)) = w3 at *
  (with_reducible refine (awake_any _).mono ?_)
  rintro e w4 ⟨rfl, hbb⟩
  obtain ⟨q1_0_0, q1_0_1⟩ := HB0.out.below hbb
  obtain ⟨q1_1_0, q1_1_1⟩ := HB1.out.below hbb
  obtain ⟨q1_2_0, q1_2_1⟩ := HB2.out.below hbb
  obtain ⟨q1_3_0, q1_3_1⟩ := HB3.out.below hbb
  go_wp2_with fail
  (with_reducible refine (C1.out _).mono ?_)
  rintro e w5 ⟨rfl, hb⟩
  have hbb := bcall hbb hb
  clear hb
  clear q1_0_0 q1_0_1 q1_1_0 q1_1_1 q1_2_0 q1_2_1 q1_3_0 q1_3_1
  obtain ⟨q2_0_0, q2_0_1⟩ := HB0.out.below hbb
  obtain ⟨q2_1_0, q2_1_1⟩ := HB1.out.below hbb
  obtain ⟨q2_2_0, q2_2_1⟩ := HB2.out.below hbb
  obtain ⟨q2_3_0, q2_3_1⟩ := HB3.out.below hbb
  go_wp2_with fail
  (with_reducible refine (C2.out _).mono ?_)
  rintro e w5 ⟨rfl, hb⟩
  have hbb := bcall hbb hb
  clear hb
  clear q2_0_0 q2_0_1 q2_1_0 q2_1_1 q2_2_0 q2_2_1 q2_3_0 q2_3_1
  obtain ⟨q3_0_0, q3_0_1⟩ := HB0.out.below hbb
  obtain ⟨q3_1_0, q3_1_1⟩ := HB1.out.below hbb
  obtain ⟨q3_2_0, q3_2_1⟩ := HB2.out.below hbb
  obtain ⟨q3_3_0, q3_3_1⟩ := HB3.out.below hbb
  go_wp2_with fail
  (with_reducible refine (C3.out _).mono ?_)
  rintro e w5 ⟨rfl, hb⟩
  have hbb := bcall hbb hb
  clear hb
  clear q3_0_0 q3_0_1 q3_1_0 q3_1_1 q3_2_0 q3_2_1 q3_3_0 q3_3_1
  obtain ⟨q4_0_0, q4_0_1⟩ := HB0.out.below hbb
  obtain ⟨q4_1_0, q4_1_1⟩ := HB1.out.below hbb
  obtain ⟨q4_2_0, q4_2_1⟩ := HB2.out.below hbb
  obtain ⟨q4_3_0, q4_3_1⟩ := HB3.out.below hbb
  go_wp2_with fail
  (with_reducible refine (C4.out _).mono ?_)
  rintro e w5 ⟨rfl, hb⟩
  have hbb := bcall hbb hb
  clear hb
  clear q4_0_0 q4_0_1 q4_1_0 q4_1_1 q4_2_0 q4_2_1 q4_3_0 q4_3_1
  obtain ⟨q5_0_0, q5_0_1⟩ := HB0.out.below hbb
  obtain ⟨q5_1_0, q5_1_1⟩ := HB1.out.below hbb
  obtain ⟨q5_2_0, q5_2_1⟩ := HB2.out.below hbb
  obtain ⟨q5_3_0, q5_3_1⟩ := HB3.out.below hbb
  go_wp2_with fail
  (with_reducible refine (C5.out _).mono ?_)
  rintro e w5 ⟨rfl, hb⟩
  have hbb := bcall hbb hb
  clear hb
  clear q5_0_0 q5_0_1 q5_1_0 q5_1_1 q5_2_0 q5_2_1 q5_3_0 q5_3_1
  obtain ⟨q6_0_0, q6_0_1⟩ := HB0.out.below hbb
  obtain ⟨q6_1_0, q6_1_1⟩ := HB1.out.below hbb
  obtain ⟨q6_2_0, q6_2_1⟩ := HB2.out.below hbb
  obtain ⟨q6_3_0, q6_3_1⟩ := HB3.out.below hbb
  have k1 := K1.out
  clear K1
  rcases k1 with ⟨k1, k2⟩ | ⟨k1, k2⟩ <;> subst k1 <;> subst k2
  all_goals
    go_wp2_with fail
    (with_reducible refine (C6.out _).mono ?_)
    rintro e w5 ⟨rfl, hb⟩
    have hbb := bcall hbb hb
    clear hb
    clear q6_0_0 q6_0_1 q6_1_0 q6_1_1 q6_2_0 q6_2_1 q6_3_0 q6_3_1
    obtain ⟨q7_0_0, q7_0_1⟩ := HB0.out.below hbb
    obtain ⟨q7_1_0, q7_1_1⟩ := HB1.out.below hbb
    obtain ⟨q7_2_0, q7_2_1⟩ := HB2.out.below hbb
    obtain ⟨q7_3_0, q7_3_1⟩ := HB3.out.below hbb
    go_wp2_with fail
    (with_reducible refine (C7.out _).mono ?_)
    rintro e w5 ⟨rfl, hb⟩
    have hbb := bcall hbb hb
    clear hb
    clear q7_0_0 q7_0_1 q7_1_0 q7_1_1 q7_2_0 q7_2_1 q7_3_0 q7_3_1
    obtain ⟨q8_0_0, q8_0_1⟩ := HB0.out.below hbb
    obtain ⟨q8_1_0, q8_1_1⟩ := HB1.out.below hbb
    obtain ⟨q8_2_0, q8_2_1⟩ := HB2.out.below hbb
    obtain ⟨q8_3_0, q8_3_1⟩ := HB3.out.below hbb
    go_wp2_with fail
    (with_reducible refine (C8.out _).mono ?_)
    rintro e w5 ⟨rfl, hb⟩
    have hbb := bcall hbb hb
    clear hb
    clear q8_0_0 q8_0_1 q8_1_0 q8_1_1 q8_2_0 q8_2_1 q8_3_0 q8_3_1
    obtain ⟨q9_0_0, q9_0_1⟩ := HB0.out.below hbb
    obtain ⟨q9_1_0, q9_1_1⟩ := HB1.out.below hbb
    obtain ⟨q9_2_0, q9_2_1⟩ := HB2.out.below hbb
    obtain ⟨q9_3_0, q9_3_1⟩ := HB3.out.below hbb
    go_wp2_with fail
    (with_reducible refine (C9.out _).mono ?_)
    rintro e w5 ⟨rfl, hb⟩
    have hbb := bcall hbb hb
    clear hb
    clear q9_0_0 q9_0_1 q9_1_0 q9_1_1 q9_2_0 q9_2_1 q9_3_0 q9_3_1
    obtain ⟨q10_0_0, q10_0_1⟩ := HB0.out.below hbb
    obtain ⟨q10_1_0, q10_1_1⟩ := HB1.out.below hbb
    obtain ⟨q10_2_0, q10_2_1⟩ := HB2.out.below hbb
    obtain ⟨q10_3_0, q10_3_1⟩ := HB3.out.below hbb
    have k2 := K2.out
    clear K2
    rcases k2 with k2 | ⟨k2, k3, k4⟩ | ⟨k2, k3, k4⟩
    · subst k2
      go_wp2_with fail
      go_ret
      exact ⟨rfl, bcall hb0 hbb⟩
    · subst k2
      subst k3
      subst k4
      go_wp2_with fail
      go_ret
      exact ⟨rfl, bcall hb0 hbb⟩
    · subst k2
      subst k3
      subst k4
      go_wp2_with fail
      go_ret
      exact ⟨rfl, bcall hb0 hbb⟩
end Go.Proofs.Ytiehbakloldkcaa
