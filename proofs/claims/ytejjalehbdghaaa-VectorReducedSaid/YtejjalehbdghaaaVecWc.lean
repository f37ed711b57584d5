/- The walks of VectorOrder and VectorReduced. -/
import Derived.Test.YtejjalehbdghaaaVecO
namespace Go.Proofs.Ytejjalehbdghaaa
open Go.RowKit
attribute [local go_sem ↓] Go.wp_at_zero Go.wp_at_succ
set_option maxHeartbeats 4000000 in
set_option maxRecDepth 100000 in
theorem order_walk (a : V3) (b : V3) (c : V3) (w : World) : Calls Try.prog 9 #[.agg #[.int .i64 a.1, .int .i64 a.2.1, .int .i64 a.2.2], .agg #[.int .i64 b.1, .int .i64 b.2.1, .int .i64 b.2.2], .agg #[.int .i64 c.1, .int .i64 c.2.1, .int .i64 c.2.2]] w fun e w' => e = .returned (.bool true) ∧ Below w.heap.size w w' := by
  have CM : Hid (∀ w, Calls Try.prog 17 #[.agg #[.int .i64 a.1, .int .i64 a.2.1, .int .i64 a.2.2], .agg #[.int .i64 b.1, .int .i64 b.2.1, .int .i64 b.2.2]] w fun e w' => e = .returned (.int .i64 (cmpV a b)) ∧ Below w.heap.size w w') := Lib.hid fun w => vCompare_any a b w
  have CN : Hid (∀ w, Calls Try.prog 17 #[.agg #[.int .i64 b.1, .int .i64 b.2.1, .int .i64 b.2.2], .agg #[.int .i64 c.1, .int .i64 c.2.1, .int .i64 c.2.2]] w fun e w' => e = .returned (.int .i64 (cmpV b c)) ∧ Below w.heap.size w w') := Lib.hid fun w => vCompare_any b c w
  have CO : Hid (∀ w, Calls Try.prog 17 #[.agg #[.int .i64 a.1, .int .i64 a.2.1, .int .i64 a.2.2], .agg #[.int .i64 c.1, .int .i64 c.2.1, .int .i64 c.2.2]] w fun e w' => e = .returned (.int .i64 (cmpV a c)) ∧ Below w.heap.size w w') := Lib.hid fun w => vCompare_any a c w
  have CR : Hid (∀ w, Calls Try.prog 17 #[.agg #[.int .i64 b.1, .int .i64 b.2.1, .int .i64 b.2.2], .agg #[.int .i64 a.1, .int .i64 a.2.1, .int .i64 a.2.2]] w fun e w' => e = .returned (.int .i64 (-cmpV a b)) ∧ Below w.heap.size w w') := Lib.hid fun w => by
    have h := vCompare_any b a w
    rw [cmpV_anti a b] at h
    exact h
  have ee := fun w => eqVec a b w
  have K : ((cmpV a b = 1 ∧ decide (a = b) = false) ∨ (cmpV a b = -1 ∧ decide (a = b) = false ∧ cmpV b c = 1) ∨ (cmpV a b = 0 ∧ decide (a = b) = true ∧ cmpV b c = 1) ∨ (cmpV a b = -1 ∧ decide (a = b) = false ∧ cmpV b c ≤ 0 ∧ cmpV a c = -1) ∨ (cmpV a b = 0 ∧ decide (a = b) = true ∧ cmpV b c ≤ 0 ∧ cmpV a c = -1) ∨ (cmpV a b = 0 ∧ decide (a = b) = true ∧ cmpV b c = 0 ∧ cmpV a c = 0)) := by
    have z := cmpV_zero a b
    have x1 := cmpV_bd a b
    have x2 := cmpV_bd b c
    have x3 := cmpV_bd a c
    by_cases h1 : cmpV a b = 1
    · exact .inl ⟨h1, decide_eq_false fun e => by rw [z.2 e] at h1; omega⟩
    · by_cases h0 : cmpV a b = 0
      · have hd := decide_eq_true (z.1 h0)
        by_cases h2 : cmpV b c = 1
        · exact .inr (.inr (.inl ⟨h0, hd, h2⟩))
        · have t := cmpV_trans a b c (by omega) (by omega)
          by_cases h3 : cmpV a c = -1
          · exact .inr (.inr (.inr (.inr (.inl ⟨h0, hd, by omega, h3⟩))))
          · exact .inr (.inr (.inr (.inr (.inr ⟨h0, hd, by omega, by omega⟩))))
      · have hd : decide (a = b) = false := decide_eq_false fun e => h0 (z.2 e)
        by_cases h2 : cmpV b c = 1
        · exact .inr (.inl ⟨by omega, hd, h2⟩)
        · have t := cmpV_trans a b c (by omega) (by omega)
          exact .inr (.inr (.inr (.inl ⟨by omega, hd, by omega, by omega⟩)))
  have nb := cmpV_bd b c
  have ob := cmpV_bd a c
  generalize cmpV a b = m at *
  generalize cmpV b c = n at *
  generalize cmpV a c = o at *
  generalize decide (a = b) = dd at *
  rcases K with ⟨k1, k2⟩ | ⟨k1, k2, k3⟩ | ⟨k1, k2, k3⟩ | ⟨k1, k2, k3, k4⟩ | ⟨k1, k2, k3, k4⟩ | ⟨k1, k2, k3, k4⟩
  case' inl => subst k1; subst k2
  case' inr.inl => subst k1; subst k2; subst k3
  case' inr.inr.inl => subst k1; subst k2; subst k3
  case' inr.inr.inr.inl => subst k1; subst k2; subst k4
  case' inr.inr.inr.inr.inl => subst k1; subst k2; subst k4
  case' inr.inr.inr.inr.inr => subst k1; subst k2; subst k3; subst k4
  all_goals
    go_enter Try.func9, Try.ntmps9
    go_wp2_with fail
    (with_reducible refine ((awake_any _)).mono ?_)
    rintro e W1 ⟨rfl, hb⟩
    have H2 := Lib.hid ((((At3.new w 23 a).old _).old _).below hb)
    have H3 := Lib.hid (((At3.new2 w _ 23 b).old _).below hb)
    have H4 := Lib.hid ((At3.new3 w _ _ 23 c).below hb)
    have B5 := bcall (bnew (bnew (bnew (Below.refl _ w) _) _) _) hb
    clear hb
    obtain ⟨q6, q7, q8⟩ := H2.out
    have l9 := H2.out.lt
    obtain ⟨q10, q11, q12⟩ := H3.out
    have l13 := H3.out.lt
    obtain ⟨q14, q15, q16⟩ := H4.out
    have l17 := H4.out.lt
    have HH := Lib.hid (⟨H2.out, H3.out, H4.out⟩ : _ ∧ _ ∧ _)
    go_wp2_with fail
    obtain ⟨w3, rfl⟩ : ∃ w3 : World, w3 = W1 := ⟨_, rfl⟩
    go_region_held3 (fun w' => w'.cell? ⟨(w.heap.size), 0, none⟩ = some (.int .i64 a.1) ∧ w'.cell? ⟨(w.heap.size), 1, none⟩ = some (.int .i64 a.2.1) ∧ w'.cell? ⟨(w.heap.size), 2, none⟩ = some (.int .i64 a.2.2) ∧ w'.cell? ⟨(w.heap.size + 1), 0, none⟩ = some (.int .i64 b.1) ∧ w'.cell? ⟨(w.heap.size + 1), 1, none⟩ = some (.int .i64 b.2.1) ∧ w'.cell? ⟨(w.heap.size + 1), 2, none⟩ = some (.int .i64 b.2.2) ∧ w'.cell? ⟨(w.heap.size + 1 + 1), 0, none⟩ = some (.int .i64 c.1) ∧ w'.cell? ⟨(w.heap.size + 1 + 1), 1, none⟩ = some (.int .i64 c.2.1) ∧ w'.cell? ⟨(w.heap.size + 1 + 1), 2, none⟩ = some (.int .i64 c.2.2) ∧ Below w3.heap.size w3 w')
      ((refine mk9 HH ?_; repeat' first | (with_reducible assumption) | (with_reducible exact Below.refl _ _) | (with_reducible refine bnew ?_ _) | (with_reducible refine Below.drew ?_)))
      ((go_at_call 17; (first | (with_reducible refine (CM.out _).mono ?_) | (with_reducible refine (CN.out _).mono ?_) | (with_reducible refine (CO.out _).mono ?_)); rintro e w' ⟨rfl, hb⟩; have hbb := bcall9 (by assumption) hb; clear hb))
    rename_i hHl
    have hbb := bcall9 hHl (Below.refl _ _)
    clear hHl
    obtain ⟨r0_0, r0_1, r0_2⟩ := H2.out.below hbb
    obtain ⟨r1_0, r1_1, r1_2⟩ := H3.out.below hbb
    obtain ⟨r2_0, r2_1, r2_2⟩ := H4.out.below hbb
    go_wp2_with fail
    (with_reducible refine (CR.out _).mono ?_)
    rintro e w9 ⟨rfl, hb⟩
    have hbc := bcall hbb hb
    obtain ⟨p0_0, p0_1, p0_2⟩ := H2.out.below hbc
    obtain ⟨p1_0, p1_1, p1_2⟩ := H3.out.below hbc
    obtain ⟨p2_0, p2_1, p2_2⟩ := H4.out.below hbc
    clear r0_0 r0_1 r0_2 r1_0 r1_1 r1_2 r2_0 r2_1 r2_2 hb
    go_wp2_with fail
    go_ret
    exact ⟨rfl, bcall B5 hbc⟩
set_option maxHeartbeats 4000000 in
set_option maxRecDepth 100000 in
theorem reduced_walk (v : V3) (w : World) : Calls Try.prog 10 #[.agg #[.int .i64 v.1, .int .i64 v.2.1, .int .i64 v.2.2]] w fun e w' => e = .returned (.bool true) ∧ Below w.heap.size w w' := by
  have C1 : Hid (∀ w, Calls Try.prog 27 #[.agg #[.int .i64 v.1, .int .i64 v.2.1, .int .i64 v.2.2]] w fun e w' => e = .returned (.tuple #[.agg #[.int .i64 (prmR v).1.1, .int .i64 (prmR v).1.2.1, .int .i64 (prmR v).1.2.2], .int .i64 (prmR v).2.1, .int .i64 (prmR v).2.2]) ∧ Below w.heap.size w w') := Lib.hid fun w => vPrimitive_any v w
  have K : ((prmR v).2.2 = 6 ∧ (prmR v).1 = (0, 0, 0) ∧ (prmR v).2.1 = 0) ∨ ((prmR v).2.2 = 1 ∧ (prmR v).1 = (0, 0, 0) ∧ (prmR v).2.1 = 0) ∨ ((prmR v).2.2 = 0 ∧ (prmR v).1 = prmV v ∧ (prmR v).2.1 = gcdV v ∧ inV v = true ∧ v ≠ (0, 0, 0)) := by
    unfold prmR
    rcases h : inV v with _ | _
    · left; exact ⟨rfl, rfl, rfl⟩
    · by_cases h0 : v = (0, 0, 0)
      · right; left; rw [if_pos rfl, if_pos h0]; exact ⟨rfl, rfl, rfl⟩
      · right; right; rw [if_pos rfl, if_neg h0]; exact ⟨rfl, rfl, rfl, rfl, h0⟩
  have ez : ∀ w, (binOp .eql 23 (.agg #[.int .i64 0, .int .i64 0, .int .i64 0]) (.agg #[.int .i64 0, .int .i64 0, .int .i64 0])).run Try.prog w = .ok (.bool true) w := fun _ => by kernel_rfl
  generalize (prmR v).1 = p at *
  generalize (prmR v).2.1 = k at *
  generalize (prmR v).2.2 = e0 at *
  rcases K with ⟨k1, k2, k3⟩ | ⟨k1, k2, k3⟩ | ⟨k1, k2, k3, hin, hnz⟩
  · subst k1
    subst k2
    subst k3
    go_enter Try.func10, Try.ntmps10
    go_wp2_with fail
    (with_reducible refine ((awake_any _)).mono ?_)
    rintro e W18 ⟨rfl, hb⟩
    have H19 := Lib.hid ((At3.new w 23 v).below hb)
    have B20 := bcall (bnew (Below.refl _ w) _) hb
    clear hb
    obtain ⟨q21, q22, q23⟩ := H19.out
    have l24 := H19.out.lt
    go_wp2_with fail
    (with_reducible refine (C1.out _).mono ?_)
    rintro e W25 ⟨rfl, hb⟩
    have H26 := Lib.hid ((H19.out).below hb)
    have B27 := bcall B20 hb
    clear hb B20 H19 q21 q22 q23 l24
    obtain ⟨q28, q29, q30⟩ := H26.out
    have l31 := H26.out.lt
    go_wp2_with fail
    go_ret
    exact ⟨rfl, (bnew B27 _)⟩
  · subst k1
    subst k2
    subst k3
    go_enter Try.func10, Try.ntmps10
    go_wp2_with fail
    (with_reducible refine ((awake_any _)).mono ?_)
    rintro e W32 ⟨rfl, hb⟩
    have H33 := Lib.hid ((At3.new w 23 v).below hb)
    have B34 := bcall (bnew (Below.refl _ w) _) hb
    clear hb
    obtain ⟨q35, q36, q37⟩ := H33.out
    have l38 := H33.out.lt
    go_wp2_with fail
    (with_reducible refine (C1.out _).mono ?_)
    rintro e W39 ⟨rfl, hb⟩
    have H40 := Lib.hid ((H33.out).below hb)
    have B41 := bcall B34 hb
    clear hb B34 H33 q35 q36 q37 l38
    obtain ⟨q42, q43, q44⟩ := H40.out
    have l45 := H40.out.lt
    go_wp2_with fail
    go_ret
    exact ⟨rfl, (bnew B41 _)⟩
  · have g1 := gcdV_pos hnz
    have g2 := gcdV_le hin hnz
    have m1 := prmV_mul v
    have C2 : Hid (∀ w, Calls Try.prog 27 #[.agg #[.int .i64 (prmV v).1, .int .i64 (prmV v).2.1, .int .i64 (prmV v).2.2]] w fun e w' => e = .returned (.tuple #[.agg #[.int .i64 (prmV v).1, .int .i64 (prmV v).2.1, .int .i64 (prmV v).2.2], .int .i64 1, .int .i64 0]) ∧ Below w.heap.size w w') := Lib.hid fun w => by
      have h := vPrimitive_any (prmV v) w
      rw [show prmR (prmV v) = (prmV v, 1, 0) from by unfold prmR; rw [if_pos (prmV_in hin g1), if_neg (prmV_nz hnz), prmV_prm g1, gcdV_prm g1]] at h
      exact h
    have hnin : inV (negV v) = true := by rw [inV_iff] at *; unfold negV; dsimp only; omega
    have hnnz : negV v ≠ (0, 0, 0) := fun e => hnz (by
      have e1 : -v.1 = 0 := congrArg (·.1) e
      have e2 : -v.2.1 = 0 := congrArg (·.2.1) e
      have e3 : -v.2.2 = 0 := congrArg (·.2.2) e
      exact V3.ext (show v.1 = 0 by omega) (show v.2.1 = 0 by omega) (show v.2.2 = 0 by omega))
    have C3 : Hid (∀ w, Calls Try.prog 27 #[.agg #[.int .i64 (-v.1), .int .i64 (-v.2.1), .int .i64 (-v.2.2)]] w fun e w' => e = .returned (.tuple #[.agg #[.int .i64 (negV (prmV v)).1, .int .i64 (negV (prmV v)).2.1, .int .i64 (negV (prmV v)).2.2], .int .i64 (gcdV v), .int .i64 0]) ∧ Below w.heap.size w w') := Lib.hid fun w => by
      have h := vPrimitive_any (negV v) w
      rw [show prmR (negV v) = (negV (prmV v), gcdV v, 0) from by unfold prmR; rw [if_pos hnin, if_neg hnnz, prmV_neg, gcdV_neg]] at h
      exact h
    have hv := (inV_iff v).1 hin
    have hp := (inV_iff (prmV v)).1 (prmV_in hin g1)
    have HN : Hid ((negV (prmV v)).1 = -(prmV v).1 ∧ (negV (prmV v)).2.1 = -(prmV v).2.1 ∧ (negV (prmV v)).2.2 = -(prmV v).2.2) := Lib.hid ⟨rfl, rfl, rfl⟩
    have ep : ∀ w, (binOp .eql 23 (.agg #[.int .i64 (prmV v).1, .int .i64 (prmV v).2.1, .int .i64 (prmV v).2.2]) (.agg #[.int .i64 (prmV v).1, .int .i64 (prmV v).2.1, .int .i64 (prmV v).2.2])).run Try.prog w = .ok (.bool true) w := fun w => by
      have h := eqVec (prmV v) (prmV v) w
      rw [show decide (prmV v = prmV v) = true by simp] at h
      exact h
    have en : ∀ w, (binOp .eql 23 (.agg #[.int .i64 (negV (prmV v)).1, .int .i64 (negV (prmV v)).2.1, .int .i64 (negV (prmV v)).2.2]) (.agg #[.int .i64 (-(prmV v).1), .int .i64 (-(prmV v).2.1), .int .i64 (-(prmV v).2.2)])).run Try.prog w = .ok (.bool true) w := fun w => by
      have h := eqVec (negV (prmV v)) (negV (prmV v)) w
      rw [show decide (negV (prmV v) = negV (prmV v)) = true by simp] at h
      exact h
    subst k1
    subst k2
    subst k3
    clear hnin hnnz hnz hin HN
    generalize negV (prmV v) = y at *
    generalize prmV v = p at *
    generalize gcdV v = k at *
    obtain ⟨⟨v1, v2⟩, ⟨v3, v4⟩, v5, v6⟩ := hv
    obtain ⟨⟨p1, p2⟩, ⟨p3, p4⟩, p5, p6⟩ := hp
    obtain ⟨m1, m2, m3⟩ := m1
    have z1 : (k * p.1 == v.1) = true := by simp [m1]
    have z2 : (k * p.2.1 == v.2.1) = true := by simp [m2]
    have z3 : (k * p.2.2 == v.2.2) = true := by simp [m3]
    have y1 : -1000000 ≤ k * p.1 ∧ k * p.1 ≤ 1000000 := by omega
    have y2 : -1000000 ≤ k * p.2.1 ∧ k * p.2.1 ≤ 1000000 := by omega
    have y3 : -1000000 ≤ k * p.2.2 ∧ k * p.2.2 ≤ 1000000 := by omega
    clear m1 m2 m3
    go_enter Try.func10, Try.ntmps10
    go_wp2_with fail
    (with_reducible refine ((awake_any _)).mono ?_)
    rintro e W46 ⟨rfl, hb⟩
    have H47 := Lib.hid ((At3.new w 23 v).below hb)
    have B48 := bcall (bnew (Below.refl _ w) _) hb
    clear hb
    obtain ⟨q49, q50, q51⟩ := H47.out
    have l52 := H47.out.lt
    go_wp2_with fail
    (with_reducible refine (C1.out _).mono ?_)
    rintro e W53 ⟨rfl, hb⟩
    have H54 := Lib.hid ((H47.out).below hb)
    have B55 := bcall B48 hb
    clear hb B48 H47 q49 q50 q51 l52
    obtain ⟨q56, q57, q58⟩ := H54.out
    have l59 := H54.out.lt
    go_wp2_with fail
    (with_reducible refine (C2.out _).mono ?_)
    rintro e W60 ⟨rfl, hb⟩
    have H61 := Lib.hid (((H54.out).old _).below hb)
    have H62 := Lib.hid ((At3.new W53 23 p).below hb)
    have B63 := bcall (bnew B55 _) hb
    clear hb B55 H54 q56 q57 q58 l59
    obtain ⟨q64, q65, q66⟩ := H61.out
    have l67 := H61.out.lt
    obtain ⟨q68, q69, q70⟩ := H62.out
    have l71 := H62.out.lt
    go_wp2_with fail
    (with_reducible refine (C3.out _).mono ?_)
    rintro e W72 ⟨rfl, hb⟩
    have H73 := Lib.hid (((H61.out).old _).below hb)
    have H74 := Lib.hid (((H62.out).old _).below hb)
    have H75 := Lib.hid ((At3.new W60 23 p).below hb)
    have B76 := bcall (bnew B63 _) hb
    clear hb B63 H61 H62 q64 q65 q66 l67 q68 q69 q70 l71
    obtain ⟨q77, q78, q79⟩ := H73.out
    have l80 := H73.out.lt
    obtain ⟨q81, q82, q83⟩ := H74.out
    have l84 := H74.out.lt
    obtain ⟨q85, q86, q87⟩ := H75.out
    have l88 := H75.out.lt
    go_wp2_with fail
    go_ret
    exact ⟨rfl, (bnew B76 _)⟩
end Go.Proofs.Ytejjalehbdghaaa
