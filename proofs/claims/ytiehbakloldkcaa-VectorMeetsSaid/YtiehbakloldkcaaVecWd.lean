/- The walks of VectorPrimitives and VectorTurns. -/
import Derived.Test.YtiehbakloldkcaaVecO
import Derived.Test.YtiehbakloldkcaaVecS
namespace Go.Proofs.Ytiehbakloldkcaa
open Go.RowKit
attribute [local go_sem ↓] Go.wp_at_zero Go.wp_at_succ
theorem At2.lt {w : World} {b : Nat} {x : P2} (h : At2 w b x) : b < w.heap.size := lt_of_cell h.1
set_option maxHeartbeats 1000000 in
theorem rOn_any (a b c : P2) (ha : inP a = true) (hb : inP b = true) (hc : inP c = true) (w : World) : Calls Try.prog 33 #[.agg #[.int .i64 a.1, .int .i64 a.2], .agg #[.int .i64 b.1, .int .i64 b.2], .agg #[.int .i64 c.1, .int .i64 c.2]] w fun e w' => e = .returned (.bool (onR a b c)) ∧ Below w.heap.size w w' := by
  have HO : Hid (onR a b c = true ↔ trn a b c = 0 ∧ ((a.1 ≤ c.1 ∨ b.1 ≤ c.1) ∧ (c.1 ≤ a.1 ∨ c.1 ≤ b.1)) ∧ ((a.2 ≤ c.2 ∨ b.2 ≤ c.2) ∧ (c.2 ≤ a.2 ∨ c.2 ≤ b.2))) := Lib.hid (by
    unfold onR box2; rw [decide_eq_true_eq]
    constructor
    · rintro ⟨h, h1, h2⟩; exact ⟨h, by omega, by omega⟩
    · rintro ⟨h, h1, h2⟩; exact ⟨h, by omega, by omega⟩)
  have HT : Hid (∀ w, Calls Try.prog 32 #[.agg #[.int .i64 a.1, .int .i64 a.2], .agg #[.int .i64 b.1, .int .i64 b.2], .agg #[.int .i64 c.1, .int .i64 c.2]] w fun e w' => e = .returned (.int .i64 (trn a b c)) ∧ Below w.heap.size w w') := Lib.hid fun w => rTurn_any a b c ha hb hc w
  have A0 := Lib.hid (((At2.new w 46 a).old (.cells #[.int .i64 b.1, .int .i64 b.2] 46)).old (.cells #[.int .i64 c.1, .int .i64 c.2] 46))
  have A1 := Lib.hid ((At2.new2 w (.cells #[.int .i64 a.1, .int .i64 a.2] 46) 46 b).old (.cells #[.int .i64 c.1, .int .i64 c.2] 46))
  have A2 := Lib.hid (At2.new3 w (.cells #[.int .i64 a.1, .int .i64 a.2] 46) (.cells #[.int .i64 b.1, .int .i64 b.2] 46) 46 c)
  have hb0 := b3 w (.cells #[.int .i64 a.1, .int .i64 a.2] 46) (.cells #[.int .i64 b.1, .int .i64 b.2] 46) (.cells #[.int .i64 c.1, .int .i64 c.2] 46)
  generalize trn a b c = t at *
  clear ha hb hc
  go_enter Try.func33, Try.ntmps33
  go_wp2_with fail
  (with_reducible refine (HT.out _).mono ?_)
  rintro e w1 ⟨rfl, hb⟩
  obtain ⟨q1, q2⟩ := A0.out.below hb
  obtain ⟨q3, q4⟩ := A1.out.below hb
  obtain ⟨q5, q6⟩ := A2.out.below hb
  have hbb := bcall hb0 hb
  clear hb A0 A1 A2 HT hb0
  by_cases ht : t = 0
  · have t1 : (t == 0) = true := by simpa using ht
    have HTT := Lib.hid ht
    clear ht
    have d1 : (decide (a.1 ≤ c.1 ∨ b.1 ≤ c.1) = true ∨ decide (a.1 ≤ c.1 ∨ b.1 ≤ c.1) = false) := by cases decide (a.1 ≤ c.1 ∨ b.1 ≤ c.1) <;> simp
    go_wp2_with fail
    all_goals
      go_ret
      exact ⟨ret_bool (by rw [Bool.eq_iff_iff, HO.out]; simp [HTT.out]; omega), hbb⟩
  · have t1 : (t == 0) = false := by simpa using ht
    have HTT := Lib.hid ht
    clear ht
    go_wp2_with fail
    go_ret
    exact ⟨ret_bool (by rw [eq_comm, Bool.eq_false_iff]; intro e; exact HTT.out (HO.out.1 e).1), hbb⟩
set_option maxHeartbeats 4000000 in
set_option maxRecDepth 100000 in
theorem primitives_walk (v : V3) (w : World) : Calls Try.prog 5 #[.agg #[.int .i64 v.1, .int .i64 v.2.1, .int .i64 v.2.2]] w fun e w' => e = .returned (.bool true) ∧ Below w.heap.size w w' := by
  have C1 : Hid (∀ w, Calls Try.prog 27 #[.agg #[.int .i64 v.1, .int .i64 v.2.1, .int .i64 v.2.2]] w fun e w' => e = .returned (.tuple #[.agg #[.int .i64 (prmR v).1.1, .int .i64 (prmR v).1.2.1, .int .i64 (prmR v).1.2.2], .int .i64 (prmR v).2.1, .int .i64 (prmR v).2.2]) ∧ Below w.heap.size w w') := Lib.hid fun w => vPrimitive_any v w
  have CI : Hid (∀ w, Calls Try.prog 16 #[.agg #[.int .i64 v.1, .int .i64 v.2.1, .int .i64 v.2.2]] w fun e w' => e = .returned (.bool (inV v)) ∧ Below w.heap.size w w') := Lib.hid fun w => rIn_any v w
  have CP : Hid (inV v = true → v ≠ (0, 0, 0) → ∀ w, Calls Try.prog 28 #[.agg #[.int .i64 v.1, .int .i64 v.2.1, .int .i64 v.2.2]] w fun e w' => e = .returned (.tuple #[.agg #[.int .i64 (prmV v).1, .int .i64 (prmV v).2.1, .int .i64 (prmV v).2.2], .int .i64 (gcdV v)]) ∧ Below w.heap.size w w') := Lib.hid fun h1 h2 w => rPrimitive_any v h1 h2 w
  have K : (inV v = false ∧ (prmR v).2.2 = 6 ∧ (prmR v).1 = (0, 0, 0) ∧ (prmR v).2.1 = 0) ∨ (inV v = true ∧ v = (0, 0, 0) ∧ (prmR v).2.2 = 1 ∧ (prmR v).1 = (0, 0, 0) ∧ (prmR v).2.1 = 0) ∨ (inV v = true ∧ v ≠ (0, 0, 0) ∧ (prmR v).2.2 = 0 ∧ (prmR v).1 = prmV v ∧ (prmR v).2.1 = gcdV v) := by
    unfold prmR
    rcases h : inV v with _ | _
    · left; exact ⟨rfl, rfl, rfl, rfl⟩
    · by_cases h0 : v = (0, 0, 0)
      · right; left; rw [if_pos rfl, if_pos h0]; exact ⟨rfl, h0, rfl, rfl, rfl⟩
      · right; right; rw [if_pos rfl, if_neg h0]; exact ⟨rfl, h0, rfl, rfl, rfl⟩
  have ez : ∀ w, (binOp .eql 23 (.agg #[.int .i64 0, .int .i64 0, .int .i64 0]) (.agg #[.int .i64 0, .int .i64 0, .int .i64 0])).run Try.prog w = .ok (.bool true) w := fun _ => by kernel_rfl
  have ev := fun w => eqVec v (0, 0, 0) w
  have ep : ∀ w, (binOp .eql 23 (.agg #[.int .i64 (prmV v).1, .int .i64 (prmV v).2.1, .int .i64 (prmV v).2.2]) (.agg #[.int .i64 (prmV v).1, .int .i64 (prmV v).2.1, .int .i64 (prmV v).2.2])).run Try.prog w = .ok (.bool true) w := fun w => by
    have h := eqVec (prmV v) (prmV v) w
    rw [show decide (prmV v = prmV v) = true by simp] at h
    exact h
  generalize (prmR v).1 = p at *
  generalize (prmR v).2.1 = k at *
  generalize (prmR v).2.2 = e0 at *
  rcases K with ⟨kin, k1, k2, k3⟩ | ⟨kin, k0, k1, k2, k3⟩ | ⟨kin, k0, k1, k2, k3⟩
  · subst k1
    subst k2
    subst k3
    rw [kin] at CI
    clear kin CP ep ev
    go_enter Try.func5, Try.ntmps5
    go_wp2_with fail
    (with_reducible refine ((awake_any _)).mono ?_)
    rintro e W1 ⟨rfl, hb⟩
    have H2 := Lib.hid ((At3.new w 23 v).below hb)
    have B3 := bcall (bnew (Below.refl _ w) _) hb
    clear hb
    obtain ⟨q4, q5, q6⟩ := H2.out
    have l7 := H2.out.lt
    go_wp2_with fail
    (with_reducible refine (C1.out _).mono ?_)
    rintro e W8 ⟨rfl, hb⟩
    have H9 := Lib.hid ((H2.out).below hb)
    have B10 := bcall B3 hb
    clear hb B3 H2 q4 q5 q6 l7
    obtain ⟨q11, q12, q13⟩ := H9.out
    have l14 := H9.out.lt
    go_wp2_with fail
    (with_reducible refine (CI.out _).mono ?_)
    rintro e W15 ⟨rfl, hb⟩
    have H16 := Lib.hid (((H9.out).old _).below hb)
    have H17 := Lib.hid ((At3.new W8 23 ((0, 0, 0) : V3)).below hb)
    have B18 := bcall (bnew B10 _) hb
    clear hb B10 H9 q11 q12 q13 l14
    obtain ⟨q19, q20, q21⟩ := H16.out
    have l22 := H16.out.lt
    obtain ⟨q23, q24, q25⟩ := H17.out
    have l26 := H17.out.lt
    go_wp2_with fail
    go_ret
    exact ⟨rfl, B18⟩
  · subst k1
    subst k2
    subst k3
    rw [kin] at CI
    have hd : decide (v = (0, 0, 0)) = true := by simpa using k0
    rw [hd] at ev
    clear kin CP ep k0 hd
    go_enter Try.func5, Try.ntmps5
    go_wp2_with fail
    (with_reducible refine ((awake_any _)).mono ?_)
    rintro e W27 ⟨rfl, hb⟩
    have H28 := Lib.hid ((At3.new w 23 v).below hb)
    have B29 := bcall (bnew (Below.refl _ w) _) hb
    clear hb
    obtain ⟨q30, q31, q32⟩ := H28.out
    have l33 := H28.out.lt
    go_wp2_with fail
    (with_reducible refine (C1.out _).mono ?_)
    rintro e W34 ⟨rfl, hb⟩
    have H35 := Lib.hid ((H28.out).below hb)
    have B36 := bcall B29 hb
    clear hb B29 H28 q30 q31 q32 l33
    obtain ⟨q37, q38, q39⟩ := H35.out
    have l40 := H35.out.lt
    go_wp2_with fail
    (with_reducible refine (CI.out _).mono ?_)
    rintro e W41 ⟨rfl, hb⟩
    have H42 := Lib.hid (((H35.out).old _).below hb)
    have H43 := Lib.hid ((At3.new W34 23 ((0, 0, 0) : V3)).below hb)
    have B44 := bcall (bnew B36 _) hb
    clear hb B36 H35 q37 q38 q39 l40
    obtain ⟨q45, q46, q47⟩ := H42.out
    have l48 := H42.out.lt
    obtain ⟨q49, q50, q51⟩ := H43.out
    have l52 := H43.out.lt
    go_wp2_with fail
    go_ret
    exact ⟨rfl, B44⟩
  · have CPv := Lib.hid (CP.out kin k0)
    subst k1
    subst k2
    subst k3
    rw [kin] at CI
    have hd : decide (v = (0, 0, 0)) = false := by simpa using k0
    rw [hd] at ev
    clear kin CP k0 hd
    generalize prmV v = p at *
    generalize gcdV v = k at *
    go_enter Try.func5, Try.ntmps5
    go_wp2_with fail
    (with_reducible refine ((awake_any _)).mono ?_)
    rintro e W53 ⟨rfl, hb⟩
    have H54 := Lib.hid ((At3.new w 23 v).below hb)
    have B55 := bcall (bnew (Below.refl _ w) _) hb
    clear hb
    obtain ⟨q56, q57, q58⟩ := H54.out
    have l59 := H54.out.lt
    go_wp2_with fail
    (with_reducible refine (C1.out _).mono ?_)
    rintro e W60 ⟨rfl, hb⟩
    have H61 := Lib.hid ((H54.out).below hb)
    have B62 := bcall B55 hb
    clear hb B55 H54 q56 q57 q58 l59
    obtain ⟨q63, q64, q65⟩ := H61.out
    have l66 := H61.out.lt
    go_wp2_with fail
    (with_reducible refine (CI.out _).mono ?_)
    rintro e W67 ⟨rfl, hb⟩
    have H68 := Lib.hid (((H61.out).old _).below hb)
    have H69 := Lib.hid ((At3.new W60 23 p).below hb)
    have B70 := bcall (bnew B62 _) hb
    clear hb B62 H61 q63 q64 q65 l66
    obtain ⟨q71, q72, q73⟩ := H68.out
    have l74 := H68.out.lt
    obtain ⟨q75, q76, q77⟩ := H69.out
    have l78 := H69.out.lt
    go_wp2_with fail
    (with_reducible refine (CPv.out _).mono ?_)
    rintro e W79 ⟨rfl, hb⟩
    have H80 := Lib.hid ((H68.out).below hb)
    have H81 := Lib.hid ((H69.out).below hb)
    have B82 := bcall B70 hb
    clear hb B70 H68 H69 q71 q72 q73 l74 q75 q76 q77 l78
    obtain ⟨q83, q84, q85⟩ := H80.out
    have l86 := H80.out.lt
    obtain ⟨q87, q88, q89⟩ := H81.out
    have l90 := H81.out.lt
    go_wp2_with fail
    go_ret
    exact ⟨rfl, (bnew B82 _)⟩
set_option maxHeartbeats 4000000 in
set_option maxRecDepth 100000 in
theorem turns_walk (a : P2) (b : P2) (c : P2) (w : World) : Calls Try.prog 6 #[.agg #[.int .i64 a.1, .int .i64 a.2], .agg #[.int .i64 b.1, .int .i64 b.2], .agg #[.int .i64 c.1, .int .i64 c.2]] w fun e w' => e = .returned (.bool true) ∧ Below w.heap.size w w' := by
  have C1 : Hid (∀ w, Calls Try.prog 29 #[.agg #[.int .i64 a.1, .int .i64 a.2], .agg #[.int .i64 b.1, .int .i64 b.2], .agg #[.int .i64 c.1, .int .i64 c.2]] w fun e w' => e = .returned (.tuple #[.int .i64 (trnR a b c).1, .int .i64 (trnR a b c).2]) ∧ Below w.heap.size w w') := Lib.hid fun w => vTurn_any a b c w
  have C2 : Hid (∀ w, Calls Try.prog 30 #[.agg #[.int .i64 a.1, .int .i64 a.2], .agg #[.int .i64 b.1, .int .i64 b.2], .agg #[.int .i64 c.1, .int .i64 c.2]] w fun e w' => e = .returned (.tuple #[.bool (onvR a b c).1, .int .i64 (onvR a b c).2]) ∧ Below w.heap.size w w') := Lib.hid fun w => vOn_any a b c w
  have Ia : Hid (∀ w, Calls Try.prog 31 #[.agg #[.int .i64 a.1, .int .i64 a.2]] w fun e w' => e = .returned (.bool (inP a)) ∧ Below w.heap.size w w') := Lib.hid fun w => rInPoint_any a w
  have Ib : Hid (∀ w, Calls Try.prog 31 #[.agg #[.int .i64 b.1, .int .i64 b.2]] w fun e w' => e = .returned (.bool (inP b)) ∧ Below w.heap.size w w') := Lib.hid fun w => rInPoint_any b w
  have Ic : Hid (∀ w, Calls Try.prog 31 #[.agg #[.int .i64 c.1, .int .i64 c.2]] w fun e w' => e = .returned (.bool (inP c)) ∧ Below w.heap.size w w') := Lib.hid fun w => rInPoint_any c w
  have CT : Hid (inP a = true → inP b = true → inP c = true → ∀ w, Calls Try.prog 32 #[.agg #[.int .i64 a.1, .int .i64 a.2], .agg #[.int .i64 b.1, .int .i64 b.2], .agg #[.int .i64 c.1, .int .i64 c.2]] w fun e w' => e = .returned (.int .i64 (trn a b c)) ∧ Below w.heap.size w w') := Lib.hid fun h1 h2 h3 w => rTurn_any a b c h1 h2 h3 w
  have CO : Hid (inP a = true → inP b = true → inP c = true → ∀ w, Calls Try.prog 33 #[.agg #[.int .i64 a.1, .int .i64 a.2], .agg #[.int .i64 b.1, .int .i64 b.2], .agg #[.int .i64 c.1, .int .i64 c.2]] w fun e w' => e = .returned (.bool (onR a b c)) ∧ Below w.heap.size w w') := Lib.hid fun h1 h2 h3 w => rOn_any a b c h1 h2 h3 w
  have K : ((inP a && (inP b && inP c)) = false ∧ trnR a b c = (0, 6) ∧ onvR a b c = (false, 6)) ∨ ((inP a && (inP b && inP c)) = true ∧ trnR a b c = (trn a b c, 0) ∧ onvR a b c = (onR a b c, 0)) := by
    have e : (inP a && (inP b && (inP c && inP c))) = (inP a && (inP b && inP c)) := by cases inP c <;> simp
    unfold onvR trnR metR
    rw [e]
    rcases h : inP a && (inP b && inP c) with _ | _
    · left; exact ⟨rfl, rfl, rfl⟩
    · right
      refine ⟨rfl, rfl, ?_⟩
      show (decide (0 < meetC a b c c), (0 : Int)) = _
      rw [meetC_single]
      cases onR a b c <;> rfl
  generalize trnR a b c = x at *
  generalize onvR a b c = y at *
  generalize trn a b c = tt at *
  generalize onR a b c = oo at *
  rcases K with ⟨kin, k1, k2⟩ | ⟨kin, k1, k2⟩
  · subst k1
    subst k2
    clear CT CO
    rcases ha : inP a with _ | _
    · rw [ha] at Ia
      clear kin ha
      go_enter Try.func6, Try.ntmps6
      go_wp2_with fail
      (with_reducible refine ((awake_any _)).mono ?_)
      rintro e W91 ⟨rfl, hb⟩
      have H92 := Lib.hid ((((At2.new w 46 a).old _).old _).below hb)
      have H93 := Lib.hid (((At2.new2 w _ 46 b).old _).below hb)
      have H94 := Lib.hid ((At2.new3 w _ _ 46 c).below hb)
      have B95 := bcall (bnew (bnew (bnew (Below.refl _ w) _) _) _) hb
      clear hb
      obtain ⟨q96, q97⟩ := H92.out
      have l98 := H92.out.lt
      obtain ⟨q99, q100⟩ := H93.out
      have l101 := H93.out.lt
      obtain ⟨q102, q103⟩ := H94.out
      have l104 := H94.out.lt
      go_wp2_with fail
      (with_reducible refine (C1.out _).mono ?_)
      rintro e W105 ⟨rfl, hb⟩
      have H106 := Lib.hid ((H92.out).below hb)
      have H107 := Lib.hid ((H93.out).below hb)
      have H108 := Lib.hid ((H94.out).below hb)
      have B109 := bcall B95 hb
      clear hb B95 H92 H93 H94 q96 q97 l98 q99 q100 l101 q102 q103 l104
      obtain ⟨q110, q111⟩ := H106.out
      have l112 := H106.out.lt
      obtain ⟨q113, q114⟩ := H107.out
      have l115 := H107.out.lt
      obtain ⟨q116, q117⟩ := H108.out
      have l118 := H108.out.lt
      go_wp2_with fail
      (with_reducible refine (C2.out _).mono ?_)
      rintro e W119 ⟨rfl, hb⟩
      have H120 := Lib.hid ((H106.out).below hb)
      have H121 := Lib.hid ((H107.out).below hb)
      have H122 := Lib.hid ((H108.out).below hb)
      have B123 := bcall B109 hb
      clear hb B109 H106 H107 H108 q110 q111 l112 q113 q114 l115 q116 q117 l118
      obtain ⟨q124, q125⟩ := H120.out
      have l126 := H120.out.lt
      obtain ⟨q127, q128⟩ := H121.out
      have l129 := H121.out.lt
      obtain ⟨q130, q131⟩ := H122.out
      have l132 := H122.out.lt
      go_wp2_with fail
      (with_reducible refine (Ia.out _).mono ?_)
      rintro e W133 ⟨rfl, hb⟩
      have H134 := Lib.hid ((H120.out).below hb)
      have H135 := Lib.hid ((H121.out).below hb)
      have H136 := Lib.hid ((H122.out).below hb)
      have B137 := bcall B123 hb
      clear hb B123 H120 H121 H122 q124 q125 l126 q127 q128 l129 q130 q131 l132
      obtain ⟨q138, q139⟩ := H134.out
      have l140 := H134.out.lt
      obtain ⟨q141, q142⟩ := H135.out
      have l143 := H135.out.lt
      obtain ⟨q144, q145⟩ := H136.out
      have l146 := H136.out.lt
      go_wp2_with fail
      go_ret
      exact ⟨rfl, B137⟩
    · rcases hb : inP b with _ | _
      · rw [ha] at Ia
        rw [hb] at Ib
        clear kin ha hb
        go_enter Try.func6, Try.ntmps6
        go_wp2_with fail
        (with_reducible refine ((awake_any _)).mono ?_)
        rintro e W147 ⟨rfl, hb⟩
        have H148 := Lib.hid ((((At2.new w 46 a).old _).old _).below hb)
        have H149 := Lib.hid (((At2.new2 w _ 46 b).old _).below hb)
        have H150 := Lib.hid ((At2.new3 w _ _ 46 c).below hb)
        have B151 := bcall (bnew (bnew (bnew (Below.refl _ w) _) _) _) hb
        clear hb
        obtain ⟨q152, q153⟩ := H148.out
        have l154 := H148.out.lt
        obtain ⟨q155, q156⟩ := H149.out
        have l157 := H149.out.lt
        obtain ⟨q158, q159⟩ := H150.out
        have l160 := H150.out.lt
        go_wp2_with fail
        (with_reducible refine (C1.out _).mono ?_)
        rintro e W161 ⟨rfl, hb⟩
        have H162 := Lib.hid ((H148.out).below hb)
        have H163 := Lib.hid ((H149.out).below hb)
        have H164 := Lib.hid ((H150.out).below hb)
        have B165 := bcall B151 hb
        clear hb B151 H148 H149 H150 q152 q153 l154 q155 q156 l157 q158 q159 l160
        obtain ⟨q166, q167⟩ := H162.out
        have l168 := H162.out.lt
        obtain ⟨q169, q170⟩ := H163.out
        have l171 := H163.out.lt
        obtain ⟨q172, q173⟩ := H164.out
        have l174 := H164.out.lt
        go_wp2_with fail
        (with_reducible refine (C2.out _).mono ?_)
        rintro e W175 ⟨rfl, hb⟩
        have H176 := Lib.hid ((H162.out).below hb)
        have H177 := Lib.hid ((H163.out).below hb)
        have H178 := Lib.hid ((H164.out).below hb)
        have B179 := bcall B165 hb
        clear hb B165 H162 H163 H164 q166 q167 l168 q169 q170 l171 q172 q173 l174
        obtain ⟨q180, q181⟩ := H176.out
        have l182 := H176.out.lt
        obtain ⟨q183, q184⟩ := H177.out
        have l185 := H177.out.lt
        obtain ⟨q186, q187⟩ := H178.out
        have l188 := H178.out.lt
        go_wp2_with fail
        (with_reducible refine (Ia.out _).mono ?_)
        rintro e W189 ⟨rfl, hb⟩
        have H190 := Lib.hid ((H176.out).below hb)
        have H191 := Lib.hid ((H177.out).below hb)
        have H192 := Lib.hid ((H178.out).below hb)
        have B193 := bcall B179 hb
        clear hb B179 H176 H177 H178 q180 q181 l182 q183 q184 l185 q186 q187 l188
        obtain ⟨q194, q195⟩ := H190.out
        have l196 := H190.out.lt
        obtain ⟨q197, q198⟩ := H191.out
        have l199 := H191.out.lt
        obtain ⟨q200, q201⟩ := H192.out
        have l202 := H192.out.lt
        go_wp2_with fail
        (with_reducible refine (Ib.out _).mono ?_)
        rintro e W203 ⟨rfl, hb⟩
        have H204 := Lib.hid ((H190.out).below hb)
        have H205 := Lib.hid ((H191.out).below hb)
        have H206 := Lib.hid ((H192.out).below hb)
        have B207 := bcall B193 hb
        clear hb B193 H190 H191 H192 q194 q195 l196 q197 q198 l199 q200 q201 l202
        obtain ⟨q208, q209⟩ := H204.out
        have l210 := H204.out.lt
        obtain ⟨q211, q212⟩ := H205.out
        have l213 := H205.out.lt
        obtain ⟨q214, q215⟩ := H206.out
        have l216 := H206.out.lt
        go_wp2_with fail
        go_ret
        exact ⟨rfl, B207⟩
      · have hc : inP c = false := by simpa [ha, hb] using kin
        rw [ha] at Ia
        rw [hb] at Ib
        rw [hc] at Ic
        clear kin ha hb hc
        go_enter Try.func6, Try.ntmps6
        go_wp2_with fail
        (with_reducible refine ((awake_any _)).mono ?_)
        rintro e W217 ⟨rfl, hb⟩
        have H218 := Lib.hid ((((At2.new w 46 a).old _).old _).below hb)
        have H219 := Lib.hid (((At2.new2 w _ 46 b).old _).below hb)
        have H220 := Lib.hid ((At2.new3 w _ _ 46 c).below hb)
        have B221 := bcall (bnew (bnew (bnew (Below.refl _ w) _) _) _) hb
        clear hb
        obtain ⟨q222, q223⟩ := H218.out
        have l224 := H218.out.lt
        obtain ⟨q225, q226⟩ := H219.out
        have l227 := H219.out.lt
        obtain ⟨q228, q229⟩ := H220.out
        have l230 := H220.out.lt
        go_wp2_with fail
        (with_reducible refine (C1.out _).mono ?_)
        rintro e W231 ⟨rfl, hb⟩
        have H232 := Lib.hid ((H218.out).below hb)
        have H233 := Lib.hid ((H219.out).below hb)
        have H234 := Lib.hid ((H220.out).below hb)
        have B235 := bcall B221 hb
        clear hb B221 H218 H219 H220 q222 q223 l224 q225 q226 l227 q228 q229 l230
        obtain ⟨q236, q237⟩ := H232.out
        have l238 := H232.out.lt
        obtain ⟨q239, q240⟩ := H233.out
        have l241 := H233.out.lt
        obtain ⟨q242, q243⟩ := H234.out
        have l244 := H234.out.lt
        go_wp2_with fail
        (with_reducible refine (C2.out _).mono ?_)
        rintro e W245 ⟨rfl, hb⟩
        have H246 := Lib.hid ((H232.out).below hb)
        have H247 := Lib.hid ((H233.out).below hb)
        have H248 := Lib.hid ((H234.out).below hb)
        have B249 := bcall B235 hb
        clear hb B235 H232 H233 H234 q236 q237 l238 q239 q240 l241 q242 q243 l244
        obtain ⟨q250, q251⟩ := H246.out
        have l252 := H246.out.lt
        obtain ⟨q253, q254⟩ := H247.out
        have l255 := H247.out.lt
        obtain ⟨q256, q257⟩ := H248.out
        have l258 := H248.out.lt
        go_wp2_with fail
        (with_reducible refine (Ia.out _).mono ?_)
        rintro e W259 ⟨rfl, hb⟩
        have H260 := Lib.hid ((H246.out).below hb)
        have H261 := Lib.hid ((H247.out).below hb)
        have H262 := Lib.hid ((H248.out).below hb)
        have B263 := bcall B249 hb
        clear hb B249 H246 H247 H248 q250 q251 l252 q253 q254 l255 q256 q257 l258
        obtain ⟨q264, q265⟩ := H260.out
        have l266 := H260.out.lt
        obtain ⟨q267, q268⟩ := H261.out
        have l269 := H261.out.lt
        obtain ⟨q270, q271⟩ := H262.out
        have l272 := H262.out.lt
        go_wp2_with fail
        (with_reducible refine (Ib.out _).mono ?_)
        rintro e W273 ⟨rfl, hb⟩
        have H274 := Lib.hid ((H260.out).below hb)
        have H275 := Lib.hid ((H261.out).below hb)
        have H276 := Lib.hid ((H262.out).below hb)
        have B277 := bcall B263 hb
        clear hb B263 H260 H261 H262 q264 q265 l266 q267 q268 l269 q270 q271 l272
        obtain ⟨q278, q279⟩ := H274.out
        have l280 := H274.out.lt
        obtain ⟨q281, q282⟩ := H275.out
        have l283 := H275.out.lt
        obtain ⟨q284, q285⟩ := H276.out
        have l286 := H276.out.lt
        go_wp2_with fail
        (with_reducible refine (Ic.out _).mono ?_)
        rintro e W287 ⟨rfl, hb⟩
        have H288 := Lib.hid ((H274.out).below hb)
        have H289 := Lib.hid ((H275.out).below hb)
        have H290 := Lib.hid ((H276.out).below hb)
        have B291 := bcall B277 hb
        clear hb B277 H274 H275 H276 q278 q279 l280 q281 q282 l283 q284 q285 l286
        obtain ⟨q292, q293⟩ := H288.out
        have l294 := H288.out.lt
        obtain ⟨q295, q296⟩ := H289.out
        have l297 := H289.out.lt
        obtain ⟨q298, q299⟩ := H290.out
        have l300 := H290.out.lt
        go_wp2_with fail
        go_ret
        exact ⟨rfl, B291⟩
  · subst k1
    subst k2
    obtain ⟨ha, hb, hc⟩ : inP a = true ∧ inP b = true ∧ inP c = true := by simpa using kin
    have CTv := Lib.hid (CT.out ha hb hc)
    have COv := Lib.hid (CO.out ha hb hc)
    rw [ha] at Ia
    rw [hb] at Ib
    rw [hc] at Ic
    clear kin ha hb hc CT CO
    go_enter Try.func6, Try.ntmps6
    go_wp2_with fail
    (with_reducible refine ((awake_any _)).mono ?_)
    rintro e W301 ⟨rfl, hb⟩
    have H302 := Lib.hid ((((At2.new w 46 a).old _).old _).below hb)
    have H303 := Lib.hid (((At2.new2 w _ 46 b).old _).below hb)
    have H304 := Lib.hid ((At2.new3 w _ _ 46 c).below hb)
    have B305 := bcall (bnew (bnew (bnew (Below.refl _ w) _) _) _) hb
    clear hb
    obtain ⟨q306, q307⟩ := H302.out
    have l308 := H302.out.lt
    obtain ⟨q309, q310⟩ := H303.out
    have l311 := H303.out.lt
    obtain ⟨q312, q313⟩ := H304.out
    have l314 := H304.out.lt
    go_wp2_with fail
    (with_reducible refine (C1.out _).mono ?_)
    rintro e W315 ⟨rfl, hb⟩
    have H316 := Lib.hid ((H302.out).below hb)
    have H317 := Lib.hid ((H303.out).below hb)
    have H318 := Lib.hid ((H304.out).below hb)
    have B319 := bcall B305 hb
    clear hb B305 H302 H303 H304 q306 q307 l308 q309 q310 l311 q312 q313 l314
    obtain ⟨q320, q321⟩ := H316.out
    have l322 := H316.out.lt
    obtain ⟨q323, q324⟩ := H317.out
    have l325 := H317.out.lt
    obtain ⟨q326, q327⟩ := H318.out
    have l328 := H318.out.lt
    go_wp2_with fail
    (with_reducible refine (C2.out _).mono ?_)
    rintro e W329 ⟨rfl, hb⟩
    have H330 := Lib.hid ((H316.out).below hb)
    have H331 := Lib.hid ((H317.out).below hb)
    have H332 := Lib.hid ((H318.out).below hb)
    have B333 := bcall B319 hb
    clear hb B319 H316 H317 H318 q320 q321 l322 q323 q324 l325 q326 q327 l328
    obtain ⟨q334, q335⟩ := H330.out
    have l336 := H330.out.lt
    obtain ⟨q337, q338⟩ := H331.out
    have l339 := H331.out.lt
    obtain ⟨q340, q341⟩ := H332.out
    have l342 := H332.out.lt
    go_wp2_with fail
    (with_reducible refine (Ia.out _).mono ?_)
    rintro e W343 ⟨rfl, hb⟩
    have H344 := Lib.hid ((H330.out).below hb)
    have H345 := Lib.hid ((H331.out).below hb)
    have H346 := Lib.hid ((H332.out).below hb)
    have B347 := bcall B333 hb
    clear hb B333 H330 H331 H332 q334 q335 l336 q337 q338 l339 q340 q341 l342
    obtain ⟨q348, q349⟩ := H344.out
    have l350 := H344.out.lt
    obtain ⟨q351, q352⟩ := H345.out
    have l353 := H345.out.lt
    obtain ⟨q354, q355⟩ := H346.out
    have l356 := H346.out.lt
    go_wp2_with fail
    (with_reducible refine (Ib.out _).mono ?_)
    rintro e W357 ⟨rfl, hb⟩
    have H358 := Lib.hid ((H344.out).below hb)
    have H359 := Lib.hid ((H345.out).below hb)
    have H360 := Lib.hid ((H346.out).below hb)
    have B361 := bcall B347 hb
    clear hb B347 H344 H345 H346 q348 q349 l350 q351 q352 l353 q354 q355 l356
    obtain ⟨q362, q363⟩ := H358.out
    have l364 := H358.out.lt
    obtain ⟨q365, q366⟩ := H359.out
    have l367 := H359.out.lt
    obtain ⟨q368, q369⟩ := H360.out
    have l370 := H360.out.lt
    go_wp2_with fail
    (with_reducible refine (Ic.out _).mono ?_)
    rintro e W371 ⟨rfl, hb⟩
    have H372 := Lib.hid ((H358.out).below hb)
    have H373 := Lib.hid ((H359.out).below hb)
    have H374 := Lib.hid ((H360.out).below hb)
    have B375 := bcall B361 hb
    clear hb B361 H358 H359 H360 q362 q363 l364 q365 q366 l367 q368 q369 l370
    obtain ⟨q376, q377⟩ := H372.out
    have l378 := H372.out.lt
    obtain ⟨q379, q380⟩ := H373.out
    have l381 := H373.out.lt
    obtain ⟨q382, q383⟩ := H374.out
    have l384 := H374.out.lt
    go_wp2_with fail
    (with_reducible refine (CTv.out _).mono ?_)
    rintro e W385 ⟨rfl, hb⟩
    have H386 := Lib.hid ((H372.out).below hb)
    have H387 := Lib.hid ((H373.out).below hb)
    have H388 := Lib.hid ((H374.out).below hb)
    have B389 := bcall B375 hb
    clear hb B375 H372 H373 H374 q376 q377 l378 q379 q380 l381 q382 q383 l384
    obtain ⟨q390, q391⟩ := H386.out
    have l392 := H386.out.lt
    obtain ⟨q393, q394⟩ := H387.out
    have l395 := H387.out.lt
    obtain ⟨q396, q397⟩ := H388.out
    have l398 := H388.out.lt
    go_wp2_with fail
    (with_reducible refine (COv.out _).mono ?_)
    rintro e W399 ⟨rfl, hb⟩
    have H400 := Lib.hid ((H386.out).below hb)
    have H401 := Lib.hid ((H387.out).below hb)
    have H402 := Lib.hid ((H388.out).below hb)
    have B403 := bcall B389 hb
    clear hb B389 H386 H387 H388 q390 q391 l392 q393 q394 l395 q396 q397 l398
    obtain ⟨q404, q405⟩ := H400.out
    have l406 := H400.out.lt
    obtain ⟨q407, q408⟩ := H401.out
    have l409 := H401.out.lt
    obtain ⟨q410, q411⟩ := H402.out
    have l412 := H402.out.lt
    go_wp2_with fail
    go_ret
    exact ⟨rfl, B403⟩
end Go.Proofs.Ytiehbakloldkcaa
