/- The walk of VectorLaws. -/
import Derived.Test.YtejjalehbdghaaaVecO
namespace Go.Proofs.Ytejjalehbdghaaa
open Go.RowKit
theorem neVec (x y : V3) (w : World) : (binOp .neq 23 (.agg #[.int .i64 x.1, .int .i64 x.2.1, .int .i64 x.2.2]) (.agg #[.int .i64 y.1, .int .i64 y.2.1, .int .i64 y.2.2])).run Try.prog w = .ok (.bool (!decide (x = y))) w := by
  have u3 := Try.underlying3
  have hS : Try.prog.underlying 23 = some (.struct (Try.prog.fieldsOf 23)) := by kernel_rfl
  have hp : Try.prog.stoodInHeld 23 = false := by kernel_rfl
  rw [run_neq_struct, show (10000 : Nat) = 9999 + 1 from rfl, run_equalIn_agg w 9999 23 _ _ hS hp]
  simp only [Program.fieldsOf, Try.underlying23]
  go_simp
  obtain ⟨x1, x2, x3⟩ := x
  obtain ⟨y1, y2, y3⟩ := y
  by_cases h1 : x1 = y1 <;> by_cases h2 : x2 = y2 <;> by_cases h3 : x3 = y3 <;> simp [h1, h2, h3]
theorem addR_cases (a b : V3) : (addR a b).2 = 6 ∨ ((addR a b).2 = 0 ∧ (inV a && inV b) = true ∧ inV (addV a b) = true ∧ (addR a b).1 = addV a b) := by
  unfold addR
  rcases h : inV a && inV b with _ | _
  · left; rfl
  · rw [if_pos rfl]
    unfold rngV
    rcases h' : inV (addV a b) with _ | _
    · left; rfl
    · right; exact ⟨rfl, rfl, rfl, rfl⟩
theorem subV_addV (a b : V3) : subV (addV a b) b = a := V3.ext (by unfold subV addV; dsimp only; omega) (by unfold subV addV; dsimp only; omega) (by unfold subV addV; dsimp only; omega)
theorem sub_add {a b : V3} (h : (inV a && inV b) = true) (h' : inV (addV a b) = true) : subR (addV a b) b = (a, 0) := by
  obtain ⟨h1, h2⟩ := two_in h
  unfold subR
  rw [h', h2, if_pos (by rfl), subV_addV]
  unfold rngV
  rw [if_pos h1]
theorem dotR_comm (a b : V3) : dotR b a = dotR a b := by
  have e : dotV b a = dotV a b := by unfold dotV; rw [Int.mul_comm b.1, Int.mul_comm b.2.1, Int.mul_comm b.2.2]
  unfold dotR
  rw [e, Bool.and_comm]
theorem crsR_anti (a b : V3) : crsR b a = (negV (crsR a b).1, (crsR a b).2) := by
  unfold crsR
  rw [Bool.and_comm (inV b)]
  split
  · refine Prod.ext (V3.ext ?_ ?_ ?_) rfl <;> (unfold crsV negV; dsimp only; grind)
  · rfl
theorem crsR_cases (a b : V3) : ((crsR a b).2 = 6 ∧ (crsR a b).1 = (0, 0, 0)) ∨ ((crsR a b).2 = 0 ∧ (inV a && inV b) = true ∧ (crsR a b).1 = crsV a b) := by
  unfold crsR
  rcases h : inV a && inV b with _ | _
  · left; exact ⟨rfl, rfl⟩
  · right; exact ⟨rfl, rfl, rfl⟩
theorem crsV_bd {a b : V3} (h : (inV a && inV b) = true) : (-2000000000000 ≤ (crsV a b).1 ∧ (crsV a b).1 ≤ 2000000000000) ∧ (-2000000000000 ≤ (crsV a b).2.1 ∧ (crsV a b).2.1 ≤ 2000000000000) ∧ (-2000000000000 ≤ (crsV a b).2.2 ∧ (crsV a b).2.2 ≤ 2000000000000) := by
  obtain ⟨i1, i2⟩ := two_in h
  rw [inV_iff] at i1 i2
  obtain ⟨u1, u2, u3⟩ := i1
  obtain ⟨v1, v2, v3⟩ := i2
  have k1 := mul_bd u1.1 u1.2 v2.1 v2.2
  have k2 := mul_bd u1.1 u1.2 v3.1 v3.2
  have k3 := mul_bd u2.1 u2.2 v1.1 v1.2
  have k4 := mul_bd u2.1 u2.2 v3.1 v3.2
  have k5 := mul_bd u3.1 u3.2 v1.1 v1.2
  have k6 := mul_bd u3.1 u3.2 v2.1 v2.2
  unfold crsV
  dsimp only
  omega
theorem orth1 (a b : V3) : (a.1 * (crsV a b).1 + a.2.1 * (crsV a b).2.1 + a.2.2 * (crsV a b).2.2 != 0) = false := by
  have : a.1 * (crsV a b).1 + a.2.1 * (crsV a b).2.1 + a.2.2 * (crsV a b).2.2 = 0 := by unfold crsV; dsimp only; grind
  simp [this]
theorem orth2 (a b : V3) : (b.1 * (crsV a b).1 + b.2.1 * (crsV a b).2.1 + b.2.2 * (crsV a b).2.2 != 0) = false := by
  have : b.1 * (crsV a b).1 + b.2.1 * (crsV a b).2.1 + b.2.2 * (crsV a b).2.2 = 0 := by unfold crsV; dsimp only; grind
  simp [this]
theorem prod_bd {x y : Int} (hx : -1000000 ≤ x ∧ x ≤ 1000000) (hy : -2000000000000 ≤ y ∧ y ≤ 2000000000000) : -2000000000000000000 ≤ x * y ∧ x * y ≤ 2000000000000000000 := by
  have := mul_bd hx.1 hx.2 hy.1 hy.2
  omega
theorem dst_move {a b c : V3} (h1 : (inV a && inV c) = true) (h2 : inV (addV a c) = true) (h3 : (inV b && inV c) = true) (h4 : inV (addV b c) = true) : dstR (addV a c) (addV b c) = dstR a b ∧ (dstR a b).2 = 0 := by
  have e : subV (addV a c) (addV b c) = subV a b := V3.ext (by unfold subV addV; dsimp only; omega) (by unfold subV addV; dsimp only; omega) (by unfold subV addV; dsimp only; omega)
  unfold dstR
  rw [e, h2, h4, (two_in h1).1, (two_in h3).1]
  exact ⟨rfl, rfl⟩
set_option maxHeartbeats 4000000 in
set_option maxRecDepth 100000 in
theorem laws_walk (a : V3) (b : V3) (c : V3) (w : World) : Calls Try.prog 8 #[.agg #[.int .i64 a.1, .int .i64 a.2.1, .int .i64 a.2.2], .agg #[.int .i64 b.1, .int .i64 b.2.1, .int .i64 b.2.2], .agg #[.int .i64 c.1, .int .i64 c.2.1, .int .i64 c.2.2]] w fun e w' => e = .returned (.bool true) ∧ Below w.heap.size w w' := by
  have CA : Hid (∀ w, Calls Try.prog 13 #[.agg #[.int .i64 a.1, .int .i64 a.2.1, .int .i64 a.2.2], .agg #[.int .i64 b.1, .int .i64 b.2.1, .int .i64 b.2.2]] w fun e w' => e = .returned (.tuple #[.agg #[.int .i64 (addR a b).1.1, .int .i64 (addR a b).1.2.1, .int .i64 (addR a b).1.2.2], .int .i64 (addR a b).2]) ∧ Below w.heap.size w w') := Lib.hid fun w => vAdd_any a b w
  have CD1 : Hid (∀ w, Calls Try.prog 22 #[.agg #[.int .i64 a.1, .int .i64 a.2.1, .int .i64 a.2.2], .agg #[.int .i64 b.1, .int .i64 b.2.1, .int .i64 b.2.2]] w fun e w' => e = .returned (.tuple #[.int .i64 (dotR a b).1, .int .i64 (dotR a b).2]) ∧ Below w.heap.size w w') := Lib.hid fun w => vDot_any a b w
  have CD2 : Hid (∀ w, Calls Try.prog 22 #[.agg #[.int .i64 b.1, .int .i64 b.2.1, .int .i64 b.2.2], .agg #[.int .i64 a.1, .int .i64 a.2.1, .int .i64 a.2.2]] w fun e w' => e = .returned (.tuple #[.int .i64 (dotR a b).1, .int .i64 (dotR a b).2]) ∧ Below w.heap.size w w') := Lib.hid fun w => by
    have h := vDot_any b a w
    rw [dotR_comm a b] at h
    exact h
  have CX1 : Hid (∀ w, Calls Try.prog 23 #[.agg #[.int .i64 a.1, .int .i64 a.2.1, .int .i64 a.2.2], .agg #[.int .i64 b.1, .int .i64 b.2.1, .int .i64 b.2.2]] w fun e w' => e = .returned (.tuple #[.agg #[.int .i64 (crsR a b).1.1, .int .i64 (crsR a b).1.2.1, .int .i64 (crsR a b).1.2.2], .int .i64 (crsR a b).2]) ∧ Below w.heap.size w w') := Lib.hid fun w => vCross_any a b w
  have CX2 : Hid (∀ w, Calls Try.prog 23 #[.agg #[.int .i64 b.1, .int .i64 b.2.1, .int .i64 b.2.2], .agg #[.int .i64 a.1, .int .i64 a.2.1, .int .i64 a.2.2]] w fun e w' => e = .returned (.tuple #[.agg #[.int .i64 (negV (crsR a b).1).1, .int .i64 (negV (crsR a b).1).2.1, .int .i64 (negV (crsR a b).1).2.2], .int .i64 (crsR a b).2]) ∧ Below w.heap.size w w') := Lib.hid fun w => by
    have h := vCross_any b a w
    rw [crsR_anti a b] at h
    exact h
  have CP : Hid (∀ w, Calls Try.prog 13 #[.agg #[.int .i64 a.1, .int .i64 a.2.1, .int .i64 a.2.2], .agg #[.int .i64 c.1, .int .i64 c.2.1, .int .i64 c.2.2]] w fun e w' => e = .returned (.tuple #[.agg #[.int .i64 (addR a c).1.1, .int .i64 (addR a c).1.2.1, .int .i64 (addR a c).1.2.2], .int .i64 (addR a c).2]) ∧ Below w.heap.size w w') := Lib.hid fun w => vAdd_any a c w
  have CQ : Hid (∀ w, Calls Try.prog 13 #[.agg #[.int .i64 b.1, .int .i64 b.2.1, .int .i64 b.2.2], .agg #[.int .i64 c.1, .int .i64 c.2.1, .int .i64 c.2.2]] w fun e w' => e = .returned (.tuple #[.agg #[.int .i64 (addR b c).1.1, .int .i64 (addR b c).1.2.1, .int .i64 (addR b c).1.2.2], .int .i64 (addR b c).2]) ∧ Below w.heap.size w w') := Lib.hid fun w => vAdd_any b c w
  have CU : Hid (∀ w, Calls Try.prog 24 #[.agg #[.int .i64 a.1, .int .i64 a.2.1, .int .i64 a.2.2], .agg #[.int .i64 b.1, .int .i64 b.2.1, .int .i64 b.2.2]] w fun e w' => e = .returned (.tuple #[.int .i64 (dstR a b).1, .int .i64 (dstR a b).2]) ∧ Below w.heap.size w w') := Lib.hid fun w => vDistance_any a b w
  have KA := Lib.hid (addR_cases a b)
  have KP := Lib.hid (addR_cases a c)
  have KQ := Lib.hid (addR_cases b c)
  have KX := Lib.hid (crsR_cases a b)
  have nv := fun w => neVec a a w
  have hda : decide (a = a) = true := by simp
  rw [hda] at nv
  clear hda
  have HN1 : Hid ((negV (crsR a b).1).1 = -(crsR a b).1.1 ∧ (negV (crsR a b).1).2.1 = -(crsR a b).1.2.1 ∧ (negV (crsR a b).1).2.2 = -(crsR a b).1.2.2) := Lib.hid ⟨rfl, rfl, rfl⟩
  have HS : Hid ((inV a && inV b) = true → inV (addV a b) = true → ∀ w, Calls Try.prog 14 #[.agg #[.int .i64 (addV a b).1, .int .i64 (addV a b).2.1, .int .i64 (addV a b).2.2], .agg #[.int .i64 b.1, .int .i64 b.2.1, .int .i64 b.2.2]] w fun e w' => e = .returned (.tuple #[.agg #[.int .i64 a.1, .int .i64 a.2.1, .int .i64 a.2.2], .int .i64 0]) ∧ Below w.heap.size w w') := Lib.hid fun h1 h2 w => by
    have h := vSub_any (addV a b) b w
    rw [sub_add h1 h2] at h
    exact h
  have HV : Hid ((inV a && inV c) = true → inV (addV a c) = true → (inV b && inV c) = true → inV (addV b c) = true → (dstR a b).2 = 0 ∧ ∀ w, Calls Try.prog 24 #[.agg #[.int .i64 (addV a c).1, .int .i64 (addV a c).2.1, .int .i64 (addV a c).2.2], .agg #[.int .i64 (addV b c).1, .int .i64 (addV b c).2.1, .int .i64 (addV b c).2.2]] w fun e w' => e = .returned (.tuple #[.int .i64 (dstR a b).1, .int .i64 (dstR a b).2]) ∧ Below w.heap.size w w') := Lib.hid fun h1 h2 h3 h4 => ⟨(dst_move h1 h2 h3 h4).2, fun w => by
    have h := vDistance_any (addV a c) (addV b c) w
    rw [(dst_move h1 h2 h3 h4).1] at h
    exact h⟩
  have HO := Lib.hid (fun h : (inV a && inV b) = true => (⟨crsV_bd h, orth1 a b, orth2 a b⟩ : _ ∧ _ ∧ _))
  generalize negV (crsR a b).1 = y at *
  generalize (crsR a b).1 = x at *
  generalize (crsR a b).2 = h at *
  generalize (addR a b).1 = s at *
  generalize (addR a b).2 = e0 at *
  generalize (addR a c).1 = p at *
  generalize (addR a c).2 = j at *
  generalize (addR b c).1 = q at *
  generalize (addR b c).2 = k at *
  generalize (dotR a b).1 = m at *
  generalize (dotR a b).2 = f at *
  generalize (dstR a b).1 = u at *
  generalize (dstR a b).2 = l at *
  go_enter Try.func8, Try.ntmps8
  go_wp2_with fail
  (with_reducible refine ((awake_any _)).mono ?_)
  rintro e W1 ⟨rfl, hb⟩
  have H2 := Lib.hid ((((At3.new w 23 a).old _).old _).below hb)
  have H3 := Lib.hid (((At3.new2 w _ 23 b).old _).below hb)
  have H4 := Lib.hid ((At3.new3 w _ _ 23 c).below hb)
  have B5 := bcall (bnew (bnew (bnew (Below.refl _ w) _) _) _) hb
  clear hb
  obtain ⟨q6, q7, q8⟩ := H2.out
  have l9 := H2.out.lt
  obtain ⟨q10, q11, q12⟩ := H3.out
  have l13 := H3.out.lt
  obtain ⟨q14, q15, q16⟩ := H4.out
  have l17 := H4.out.lt
  go_wp2_with fail
  (with_reducible refine (CA.out _).mono ?_)
  rintro e W18 ⟨rfl, hb⟩
  have H19 := Lib.hid ((H2.out).below hb)
  have H20 := Lib.hid ((H3.out).below hb)
  have H21 := Lib.hid ((H4.out).below hb)
  have B22 := bcall B5 hb
  clear hb B5 H2 H3 H4 q6 q7 q8 l9 q10 q11 q12 l13 q14 q15 q16 l17
  obtain ⟨q23, q24, q25⟩ := H19.out
  have l26 := H19.out.lt
  obtain ⟨q27, q28, q29⟩ := H20.out
  have l30 := H20.out.lt
  obtain ⟨q31, q32, q33⟩ := H21.out
  have l34 := H21.out.lt
  have ka := KA.out
  clear KA
  rcases ka with ka | ⟨ka, ka1, ka2, ka3⟩
  · subst ka
    go_wp2_with fail
    (with_reducible refine (CD1.out _).mono ?_)
    rintro e W35 ⟨rfl, hb⟩
    have H36 := Lib.hid (((H19.out).old _).below hb)
    have H37 := Lib.hid (((H20.out).old _).below hb)
    have H38 := Lib.hid (((H21.out).old _).below hb)
    have H39 := Lib.hid ((At3.new W18 23 s).below hb)
    have B40 := bcall (bnew B22 _) hb
    clear hb B22 H19 H20 H21 q23 q24 q25 l26 q27 q28 q29 l30 q31 q32 q33 l34
    obtain ⟨q41, q42, q43⟩ := H36.out
    have l44 := H36.out.lt
    obtain ⟨q45, q46, q47⟩ := H37.out
    have l48 := H37.out.lt
    obtain ⟨q49, q50, q51⟩ := H38.out
    have l52 := H38.out.lt
    obtain ⟨q53, q54, q55⟩ := H39.out
    have l56 := H39.out.lt
    go_wp2_with fail
    (with_reducible refine (CD2.out _).mono ?_)
    rintro e W57 ⟨rfl, hb⟩
    have H58 := Lib.hid ((H36.out).below hb)
    have H59 := Lib.hid ((H37.out).below hb)
    have H60 := Lib.hid ((H38.out).below hb)
    have H61 := Lib.hid ((H39.out).below hb)
    have B62 := bcall B40 hb
    clear hb B40 H36 H37 H38 H39 q41 q42 q43 l44 q45 q46 q47 l48 q49 q50 q51 l52 q53 q54 q55 l56
    obtain ⟨q63, q64, q65⟩ := H58.out
    have l66 := H58.out.lt
    obtain ⟨q67, q68, q69⟩ := H59.out
    have l70 := H59.out.lt
    obtain ⟨q71, q72, q73⟩ := H60.out
    have l74 := H60.out.lt
    obtain ⟨q75, q76, q77⟩ := H61.out
    have l78 := H61.out.lt
    go_wp2_with fail
    (with_reducible refine (CX1.out _).mono ?_)
    rintro e W79 ⟨rfl, hb⟩
    have H80 := Lib.hid ((H58.out).below hb)
    have H81 := Lib.hid ((H59.out).below hb)
    have H82 := Lib.hid ((H60.out).below hb)
    have H83 := Lib.hid ((H61.out).below hb)
    have B84 := bcall B62 hb
    clear hb B62 H58 H59 H60 H61 q63 q64 q65 l66 q67 q68 q69 l70 q71 q72 q73 l74 q75 q76 q77 l78
    obtain ⟨q85, q86, q87⟩ := H80.out
    have l88 := H80.out.lt
    obtain ⟨q89, q90, q91⟩ := H81.out
    have l92 := H81.out.lt
    obtain ⟨q93, q94, q95⟩ := H82.out
    have l96 := H82.out.lt
    obtain ⟨q97, q98, q99⟩ := H83.out
    have l100 := H83.out.lt
    go_wp2_with fail
    (with_reducible refine (CX2.out _).mono ?_)
    rintro e W101 ⟨rfl, hb⟩
    have H102 := Lib.hid (((H80.out).old _).below hb)
    have H103 := Lib.hid (((H81.out).old _).below hb)
    have H104 := Lib.hid (((H82.out).old _).below hb)
    have H105 := Lib.hid (((H83.out).old _).below hb)
    have H106 := Lib.hid ((At3.new W79 36 x).below hb)
    have B107 := bcall (bnew B84 _) hb
    clear hb B84 H80 H81 H82 H83 q85 q86 q87 l88 q89 q90 q91 l92 q93 q94 q95 l96 q97 q98 q99 l100
    obtain ⟨q108, q109, q110⟩ := H102.out
    have l111 := H102.out.lt
    obtain ⟨q112, q113, q114⟩ := H103.out
    have l115 := H103.out.lt
    obtain ⟨q116, q117, q118⟩ := H104.out
    have l119 := H104.out.lt
    obtain ⟨q120, q121, q122⟩ := H105.out
    have l123 := H105.out.lt
    obtain ⟨q124, q125, q126⟩ := H106.out
    have l127 := H106.out.lt
    obtain ⟨n1, n2, n3⟩ := HN1.out
    have kx := KX.out
    clear KX HN1
    rcases kx with ⟨kh, kx⟩ | ⟨kh, kx, ky⟩
    · subst kh
      subst kx
      have hy : y = (0, 0, 0) := V3.ext (by rw [n1]; rfl) (by rw [n2]; rfl) (by rw [n3]; rfl)
      clear n1 n2 n3
      subst hy
      go_wp2_with fail
      (with_reducible refine (CP.out _).mono ?_)
      rintro e W128 ⟨rfl, hb⟩
      have H129 := Lib.hid (((H102.out).old _).below hb)
      have H130 := Lib.hid (((H103.out).old _).below hb)
      have H131 := Lib.hid (((H104.out).old _).below hb)
      have H132 := Lib.hid (((H105.out).old _).below hb)
      have H133 := Lib.hid (((H106.out).old _).below hb)
      have H134 := Lib.hid ((At3.new W101 36 ((0, 0, 0) : V3)).below hb)
      have B135 := bcall (bnew B107 _) hb
      clear hb B107 H102 H103 H104 H105 H106 q108 q109 q110 l111 q112 q113 q114 l115 q116 q117 q118 l119 q120 q121 q122 l123 q124 q125 q126 l127
      obtain ⟨q136, q137, q138⟩ := H129.out
      have l139 := H129.out.lt
      obtain ⟨q140, q141, q142⟩ := H130.out
      have l143 := H130.out.lt
      obtain ⟨q144, q145, q146⟩ := H131.out
      have l147 := H131.out.lt
      obtain ⟨q148, q149, q150⟩ := H132.out
      have l151 := H132.out.lt
      obtain ⟨q152, q153, q154⟩ := H133.out
      have l155 := H133.out.lt
      obtain ⟨q156, q157, q158⟩ := H134.out
      have l159 := H134.out.lt
      go_wp2_with fail
      (with_reducible refine (CQ.out _).mono ?_)
      rintro e W160 ⟨rfl, hb⟩
      have H161 := Lib.hid (((H129.out).old _).below hb)
      have H162 := Lib.hid (((H130.out).old _).below hb)
      have H163 := Lib.hid (((H131.out).old _).below hb)
      have H164 := Lib.hid (((H132.out).old _).below hb)
      have H165 := Lib.hid (((H133.out).old _).below hb)
      have H166 := Lib.hid (((H134.out).old _).below hb)
      have H167 := Lib.hid ((At3.new W128 23 p).below hb)
      have B168 := bcall (bnew B135 _) hb
      clear hb B135 H129 H130 H131 H132 H133 H134 q136 q137 q138 l139 q140 q141 q142 l143 q144 q145 q146 l147 q148 q149 q150 l151 q152 q153 q154 l155 q156 q157 q158 l159
      obtain ⟨q169, q170, q171⟩ := H161.out
      have l172 := H161.out.lt
      obtain ⟨q173, q174, q175⟩ := H162.out
      have l176 := H162.out.lt
      obtain ⟨q177, q178, q179⟩ := H163.out
      have l180 := H163.out.lt
      obtain ⟨q181, q182, q183⟩ := H164.out
      have l184 := H164.out.lt
      obtain ⟨q185, q186, q187⟩ := H165.out
      have l188 := H165.out.lt
      obtain ⟨q189, q190, q191⟩ := H166.out
      have l192 := H166.out.lt
      obtain ⟨q193, q194, q195⟩ := H167.out
      have l196 := H167.out.lt
      have kp := KP.out
      have kq := KQ.out
      clear KP KQ
      rcases kp with kp | ⟨kp, kp1, kp2, kp3⟩
      · subst kp
        clear kq
        go_wp2_with fail
        go_ret
        exact ⟨rfl, (bnew B168 _)⟩
      · rcases kq with kq | ⟨kq, kq1, kq2, kq3⟩
        · subst kp
          subst kq
          clear kp1 kp2 kp3
          go_wp2_with fail
          go_ret
          exact ⟨rfl, (bnew B168 _)⟩
        · subst kp
          subst kq
          subst kp3
          subst kq3
          obtain ⟨hl, CVv⟩ := HV.out kp1 kp2 kq1 kq2
          subst hl
          have CV := Lib.hid CVv
          clear CVv HV kp1 kp2 kq1 kq2
          go_wp2_with fail
          (with_reducible refine (CU.out _).mono ?_)
          rintro e W197 ⟨rfl, hb⟩
          have H198 := Lib.hid (((H161.out).old _).below hb)
          have H199 := Lib.hid (((H162.out).old _).below hb)
          have H200 := Lib.hid (((H163.out).old _).below hb)
          have H201 := Lib.hid (((H164.out).old _).below hb)
          have H202 := Lib.hid (((H165.out).old _).below hb)
          have H203 := Lib.hid (((H166.out).old _).below hb)
          have H204 := Lib.hid (((H167.out).old _).below hb)
          have H205 := Lib.hid ((At3.new W160 23 (addV b c)).below hb)
          have B206 := bcall (bnew B168 _) hb
          clear hb B168 H161 H162 H163 H164 H165 H166 H167 q169 q170 q171 l172 q173 q174 q175 l176 q177 q178 q179 l180 q181 q182 q183 l184 q185 q186 q187 l188 q189 q190 q191 l192 q193 q194 q195 l196
          obtain ⟨q207, q208, q209⟩ := H198.out
          have l210 := H198.out.lt
          obtain ⟨q211, q212, q213⟩ := H199.out
          have l214 := H199.out.lt
          obtain ⟨q215, q216, q217⟩ := H200.out
          have l218 := H200.out.lt
          obtain ⟨q219, q220, q221⟩ := H201.out
          have l222 := H201.out.lt
          obtain ⟨q223, q224, q225⟩ := H202.out
          have l226 := H202.out.lt
          obtain ⟨q227, q228, q229⟩ := H203.out
          have l230 := H203.out.lt
          obtain ⟨q231, q232, q233⟩ := H204.out
          have l234 := H204.out.lt
          obtain ⟨q235, q236, q237⟩ := H205.out
          have l238 := H205.out.lt
          go_wp2_with fail
          (with_reducible refine (CV.out _).mono ?_)
          rintro e W239 ⟨rfl, hb⟩
          have H240 := Lib.hid ((H198.out).below hb)
          have H241 := Lib.hid ((H199.out).below hb)
          have H242 := Lib.hid ((H200.out).below hb)
          have H243 := Lib.hid ((H201.out).below hb)
          have H244 := Lib.hid ((H202.out).below hb)
          have H245 := Lib.hid ((H203.out).below hb)
          have H246 := Lib.hid ((H204.out).below hb)
          have H247 := Lib.hid ((H205.out).below hb)
          have B248 := bcall B206 hb
          clear hb B206 H198 H199 H200 H201 H202 H203 H204 H205 q207 q208 q209 l210 q211 q212 q213 l214 q215 q216 q217 l218 q219 q220 q221 l222 q223 q224 q225 l226 q227 q228 q229 l230 q231 q232 q233 l234 q235 q236 q237 l238
          obtain ⟨q249, q250, q251⟩ := H240.out
          have l252 := H240.out.lt
          obtain ⟨q253, q254, q255⟩ := H241.out
          have l256 := H241.out.lt
          obtain ⟨q257, q258, q259⟩ := H242.out
          have l260 := H242.out.lt
          obtain ⟨q261, q262, q263⟩ := H243.out
          have l264 := H243.out.lt
          obtain ⟨q265, q266, q267⟩ := H244.out
          have l268 := H244.out.lt
          obtain ⟨q269, q270, q271⟩ := H245.out
          have l272 := H245.out.lt
          obtain ⟨q273, q274, q275⟩ := H246.out
          have l276 := H246.out.lt
          obtain ⟨q277, q278, q279⟩ := H247.out
          have l280 := H247.out.lt
          go_wp2_with fail
          go_ret
          exact ⟨rfl, B248⟩
    · subst kh
      subst ky
      obtain ⟨⟨xb1, xb2, xb3⟩, o1, o2⟩ := HO.out kx
      have HKX := Lib.hid kx
      obtain ⟨i1, i2⟩ := two_in kx
      clear kx
      rw [inV_iff] at i1 i2
      obtain ⟨u1, u2, u3⟩ := i1
      obtain ⟨w1', w2', w3'⟩ := i2
      obtain ⟨pa1, pa2⟩ := prod_bd u1 xb1
      obtain ⟨pa3, pa4⟩ := prod_bd u2 xb2
      obtain ⟨pa5, pa6⟩ := prod_bd u3 xb3
      obtain ⟨pb1, pb2⟩ := prod_bd w1' xb1
      obtain ⟨pb3, pb4⟩ := prod_bd w2' xb2
      obtain ⟨pb5, pb6⟩ := prod_bd w3' xb3
      obtain ⟨xb11, xb12⟩ := xb1
      obtain ⟨xb21, xb22⟩ := xb2
      obtain ⟨xb31, xb32⟩ := xb3
      clear HO
      generalize hxx : crsV a b = x at *
      clear hxx
      have v1 : (x.1 != -y.1) = false := by simp [n1]
      have v2 : (x.2.1 != -y.2.1) = false := by simp [n2]
      have v3 : (x.2.2 != -y.2.2) = false := by simp [n3]
      have yb1 : -2000000000000 ≤ y.1 ∧ y.1 ≤ 2000000000000 := by omega
      have yb2 : -2000000000000 ≤ y.2.1 ∧ y.2.1 ≤ 2000000000000 := by omega
      have yb3 : -2000000000000 ≤ y.2.2 ∧ y.2.2 ≤ 2000000000000 := by omega
      clear n1 n2 n3 u1 u2 u3 w1' w2' w3'
      go_wp2_with fail
      (with_reducible refine (CP.out _).mono ?_)
      rintro e W281 ⟨rfl, hb⟩
      have H282 := Lib.hid (((H102.out).old _).below hb)
      have H283 := Lib.hid (((H103.out).old _).below hb)
      have H284 := Lib.hid (((H104.out).old _).below hb)
      have H285 := Lib.hid (((H105.out).old _).below hb)
      have H286 := Lib.hid (((H106.out).old _).below hb)
      have H287 := Lib.hid ((At3.new W101 36 y).below hb)
      have B288 := bcall (bnew B107 _) hb
      clear hb B107 H102 H103 H104 H105 H106 q108 q109 q110 l111 q112 q113 q114 l115 q116 q117 q118 l119 q120 q121 q122 l123 q124 q125 q126 l127
      obtain ⟨q289, q290, q291⟩ := H282.out
      have l292 := H282.out.lt
      obtain ⟨q293, q294, q295⟩ := H283.out
      have l296 := H283.out.lt
      obtain ⟨q297, q298, q299⟩ := H284.out
      have l300 := H284.out.lt
      obtain ⟨q301, q302, q303⟩ := H285.out
      have l304 := H285.out.lt
      obtain ⟨q305, q306, q307⟩ := H286.out
      have l308 := H286.out.lt
      obtain ⟨q309, q310, q311⟩ := H287.out
      have l312 := H287.out.lt
      go_wp2_with fail
      (with_reducible refine (CQ.out _).mono ?_)
      rintro e W313 ⟨rfl, hb⟩
      have H314 := Lib.hid (((H282.out).old _).below hb)
      have H315 := Lib.hid (((H283.out).old _).below hb)
      have H316 := Lib.hid (((H284.out).old _).below hb)
      have H317 := Lib.hid (((H285.out).old _).below hb)
      have H318 := Lib.hid (((H286.out).old _).below hb)
      have H319 := Lib.hid (((H287.out).old _).below hb)
      have H320 := Lib.hid ((At3.new W281 23 p).below hb)
      have B321 := bcall (bnew B288 _) hb
      clear hb B288 H282 H283 H284 H285 H286 H287 q289 q290 q291 l292 q293 q294 q295 l296 q297 q298 q299 l300 q301 q302 q303 l304 q305 q306 q307 l308 q309 q310 q311 l312
      obtain ⟨q322, q323, q324⟩ := H314.out
      have l325 := H314.out.lt
      obtain ⟨q326, q327, q328⟩ := H315.out
      have l329 := H315.out.lt
      obtain ⟨q330, q331, q332⟩ := H316.out
      have l333 := H316.out.lt
      obtain ⟨q334, q335, q336⟩ := H317.out
      have l337 := H317.out.lt
      obtain ⟨q338, q339, q340⟩ := H318.out
      have l341 := H318.out.lt
      obtain ⟨q342, q343, q344⟩ := H319.out
      have l345 := H319.out.lt
      obtain ⟨q346, q347, q348⟩ := H320.out
      have l349 := H320.out.lt
      have kp := KP.out
      have kq := KQ.out
      clear KP KQ
      rcases kp with kp | ⟨kp, kp1, kp2, kp3⟩
      · subst kp
        clear kq
        go_wp2_with fail
        go_ret
        exact ⟨rfl, (bnew B321 _)⟩
      · rcases kq with kq | ⟨kq, kq1, kq2, kq3⟩
        · subst kp
          subst kq
          clear kp1 kp2 kp3
          go_wp2_with fail
          go_ret
          exact ⟨rfl, (bnew B321 _)⟩
        · subst kp
          subst kq
          subst kp3
          subst kq3
          obtain ⟨hl, CVv⟩ := HV.out kp1 kp2 kq1 kq2
          subst hl
          have CV := Lib.hid CVv
          clear CVv HV kp1 kp2 kq1 kq2
          go_wp2_with fail
          (with_reducible refine (CU.out _).mono ?_)
          rintro e W350 ⟨rfl, hb⟩
          have H351 := Lib.hid (((H314.out).old _).below hb)
          have H352 := Lib.hid (((H315.out).old _).below hb)
          have H353 := Lib.hid (((H316.out).old _).below hb)
          have H354 := Lib.hid (((H317.out).old _).below hb)
          have H355 := Lib.hid (((H318.out).old _).below hb)
          have H356 := Lib.hid (((H319.out).old _).below hb)
          have H357 := Lib.hid (((H320.out).old _).below hb)
          have H358 := Lib.hid ((At3.new W313 23 (addV b c)).below hb)
          have B359 := bcall (bnew B321 _) hb
          clear hb B321 H314 H315 H316 H317 H318 H319 H320 q322 q323 q324 l325 q326 q327 q328 l329 q330 q331 q332 l333 q334 q335 q336 l337 q338 q339 q340 l341 q342 q343 q344 l345 q346 q347 q348 l349
          obtain ⟨q360, q361, q362⟩ := H351.out
          have l363 := H351.out.lt
          obtain ⟨q364, q365, q366⟩ := H352.out
          have l367 := H352.out.lt
          obtain ⟨q368, q369, q370⟩ := H353.out
          have l371 := H353.out.lt
          obtain ⟨q372, q373, q374⟩ := H354.out
          have l375 := H354.out.lt
          obtain ⟨q376, q377, q378⟩ := H355.out
          have l379 := H355.out.lt
          obtain ⟨q380, q381, q382⟩ := H356.out
          have l383 := H356.out.lt
          obtain ⟨q384, q385, q386⟩ := H357.out
          have l387 := H357.out.lt
          obtain ⟨q388, q389, q390⟩ := H358.out
          have l391 := H358.out.lt
          go_wp2_with fail
          (with_reducible refine (CV.out _).mono ?_)
          rintro e W392 ⟨rfl, hb⟩
          have H393 := Lib.hid ((H351.out).below hb)
          have H394 := Lib.hid ((H352.out).below hb)
          have H395 := Lib.hid ((H353.out).below hb)
          have H396 := Lib.hid ((H354.out).below hb)
          have H397 := Lib.hid ((H355.out).below hb)
          have H398 := Lib.hid ((H356.out).below hb)
          have H399 := Lib.hid ((H357.out).below hb)
          have H400 := Lib.hid ((H358.out).below hb)
          have B401 := bcall B359 hb
          clear hb B359 H351 H352 H353 H354 H355 H356 H357 H358 q360 q361 q362 l363 q364 q365 q366 l367 q368 q369 q370 l371 q372 q373 q374 l375 q376 q377 q378 l379 q380 q381 q382 l383 q384 q385 q386 l387 q388 q389 q390 l391
          obtain ⟨q402, q403, q404⟩ := H393.out
          have l405 := H393.out.lt
          obtain ⟨q406, q407, q408⟩ := H394.out
          have l409 := H394.out.lt
          obtain ⟨q410, q411, q412⟩ := H395.out
          have l413 := H395.out.lt
          obtain ⟨q414, q415, q416⟩ := H396.out
          have l417 := H396.out.lt
          obtain ⟨q418, q419, q420⟩ := H397.out
          have l421 := H397.out.lt
          obtain ⟨q422, q423, q424⟩ := H398.out
          have l425 := H398.out.lt
          obtain ⟨q426, q427, q428⟩ := H399.out
          have l429 := H399.out.lt
          obtain ⟨q430, q431, q432⟩ := H400.out
          have l433 := H400.out.lt
          go_wp2_with fail
          go_ret
          exact ⟨rfl, B401⟩
  · subst ka
    subst ka3
    have CS := Lib.hid (HS.out ka1 ka2)
    clear HS ka1 ka2
    go_wp2_with fail
    (with_reducible refine (CS.out _).mono ?_)
    rintro e W434 ⟨rfl, hb⟩
    have H435 := Lib.hid (((H19.out).old _).below hb)
    have H436 := Lib.hid (((H20.out).old _).below hb)
    have H437 := Lib.hid (((H21.out).old _).below hb)
    have H438 := Lib.hid ((At3.new W18 23 (addV a b)).below hb)
    have B439 := bcall (bnew B22 _) hb
    clear hb B22 H19 H20 H21 q23 q24 q25 l26 q27 q28 q29 l30 q31 q32 q33 l34
    obtain ⟨q440, q441, q442⟩ := H435.out
    have l443 := H435.out.lt
    obtain ⟨q444, q445, q446⟩ := H436.out
    have l447 := H436.out.lt
    obtain ⟨q448, q449, q450⟩ := H437.out
    have l451 := H437.out.lt
    obtain ⟨q452, q453, q454⟩ := H438.out
    have l455 := H438.out.lt
    go_wp2_with fail
    (with_reducible refine (CD1.out _).mono ?_)
    rintro e W456 ⟨rfl, hb⟩
    have H457 := Lib.hid (((H435.out).old _).below hb)
    have H458 := Lib.hid (((H436.out).old _).below hb)
    have H459 := Lib.hid (((H437.out).old _).below hb)
    have H460 := Lib.hid (((H438.out).old _).below hb)
    have H461 := Lib.hid ((At3.new W434 23 a).below hb)
    have B462 := bcall (bnew B439 _) hb
    clear hb B439 H435 H436 H437 H438 q440 q441 q442 l443 q444 q445 q446 l447 q448 q449 q450 l451 q452 q453 q454 l455
    obtain ⟨q463, q464, q465⟩ := H457.out
    have l466 := H457.out.lt
    obtain ⟨q467, q468, q469⟩ := H458.out
    have l470 := H458.out.lt
    obtain ⟨q471, q472, q473⟩ := H459.out
    have l474 := H459.out.lt
    obtain ⟨q475, q476, q477⟩ := H460.out
    have l478 := H460.out.lt
    obtain ⟨q479, q480, q481⟩ := H461.out
    have l482 := H461.out.lt
    go_wp2_with fail
    (with_reducible refine (CD2.out _).mono ?_)
    rintro e W483 ⟨rfl, hb⟩
    have H484 := Lib.hid ((H457.out).below hb)
    have H485 := Lib.hid ((H458.out).below hb)
    have H486 := Lib.hid ((H459.out).below hb)
    have H487 := Lib.hid ((H460.out).below hb)
    have H488 := Lib.hid ((H461.out).below hb)
    have B489 := bcall B462 hb
    clear hb B462 H457 H458 H459 H460 H461 q463 q464 q465 l466 q467 q468 q469 l470 q471 q472 q473 l474 q475 q476 q477 l478 q479 q480 q481 l482
    obtain ⟨q490, q491, q492⟩ := H484.out
    have l493 := H484.out.lt
    obtain ⟨q494, q495, q496⟩ := H485.out
    have l497 := H485.out.lt
    obtain ⟨q498, q499, q500⟩ := H486.out
    have l501 := H486.out.lt
    obtain ⟨q502, q503, q504⟩ := H487.out
    have l505 := H487.out.lt
    obtain ⟨q506, q507, q508⟩ := H488.out
    have l509 := H488.out.lt
    go_wp2_with fail
    (with_reducible refine (CX1.out _).mono ?_)
    rintro e W510 ⟨rfl, hb⟩
    have H511 := Lib.hid ((H484.out).below hb)
    have H512 := Lib.hid ((H485.out).below hb)
    have H513 := Lib.hid ((H486.out).below hb)
    have H514 := Lib.hid ((H487.out).below hb)
    have H515 := Lib.hid ((H488.out).below hb)
    have B516 := bcall B489 hb
    clear hb B489 H484 H485 H486 H487 H488 q490 q491 q492 l493 q494 q495 q496 l497 q498 q499 q500 l501 q502 q503 q504 l505 q506 q507 q508 l509
    obtain ⟨q517, q518, q519⟩ := H511.out
    have l520 := H511.out.lt
    obtain ⟨q521, q522, q523⟩ := H512.out
    have l524 := H512.out.lt
    obtain ⟨q525, q526, q527⟩ := H513.out
    have l528 := H513.out.lt
    obtain ⟨q529, q530, q531⟩ := H514.out
    have l532 := H514.out.lt
    obtain ⟨q533, q534, q535⟩ := H515.out
    have l536 := H515.out.lt
    go_wp2_with fail
    (with_reducible refine (CX2.out _).mono ?_)
    rintro e W537 ⟨rfl, hb⟩
    have H538 := Lib.hid (((H511.out).old _).below hb)
    have H539 := Lib.hid (((H512.out).old _).below hb)
    have H540 := Lib.hid (((H513.out).old _).below hb)
    have H541 := Lib.hid (((H514.out).old _).below hb)
    have H542 := Lib.hid (((H515.out).old _).below hb)
    have H543 := Lib.hid ((At3.new W510 36 x).below hb)
    have B544 := bcall (bnew B516 _) hb
    clear hb B516 H511 H512 H513 H514 H515 q517 q518 q519 l520 q521 q522 q523 l524 q525 q526 q527 l528 q529 q530 q531 l532 q533 q534 q535 l536
    obtain ⟨q545, q546, q547⟩ := H538.out
    have l548 := H538.out.lt
    obtain ⟨q549, q550, q551⟩ := H539.out
    have l552 := H539.out.lt
    obtain ⟨q553, q554, q555⟩ := H540.out
    have l556 := H540.out.lt
    obtain ⟨q557, q558, q559⟩ := H541.out
    have l560 := H541.out.lt
    obtain ⟨q561, q562, q563⟩ := H542.out
    have l564 := H542.out.lt
    obtain ⟨q565, q566, q567⟩ := H543.out
    have l568 := H543.out.lt
    obtain ⟨n1, n2, n3⟩ := HN1.out
    have kx := KX.out
    clear KX HN1
    rcases kx with ⟨kh, kx⟩ | ⟨kh, kx, ky⟩
    · subst kh
      subst kx
      have hy : y = (0, 0, 0) := V3.ext (by rw [n1]; rfl) (by rw [n2]; rfl) (by rw [n3]; rfl)
      clear n1 n2 n3
      subst hy
      go_wp2_with fail
      (with_reducible refine (CP.out _).mono ?_)
      rintro e W569 ⟨rfl, hb⟩
      have H570 := Lib.hid (((H538.out).old _).below hb)
      have H571 := Lib.hid (((H539.out).old _).below hb)
      have H572 := Lib.hid (((H540.out).old _).below hb)
      have H573 := Lib.hid (((H541.out).old _).below hb)
      have H574 := Lib.hid (((H542.out).old _).below hb)
      have H575 := Lib.hid (((H543.out).old _).below hb)
      have H576 := Lib.hid ((At3.new W537 36 ((0, 0, 0) : V3)).below hb)
      have B577 := bcall (bnew B544 _) hb
      clear hb B544 H538 H539 H540 H541 H542 H543 q545 q546 q547 l548 q549 q550 q551 l552 q553 q554 q555 l556 q557 q558 q559 l560 q561 q562 q563 l564 q565 q566 q567 l568
      obtain ⟨q578, q579, q580⟩ := H570.out
      have l581 := H570.out.lt
      obtain ⟨q582, q583, q584⟩ := H571.out
      have l585 := H571.out.lt
      obtain ⟨q586, q587, q588⟩ := H572.out
      have l589 := H572.out.lt
      obtain ⟨q590, q591, q592⟩ := H573.out
      have l593 := H573.out.lt
      obtain ⟨q594, q595, q596⟩ := H574.out
      have l597 := H574.out.lt
      obtain ⟨q598, q599, q600⟩ := H575.out
      have l601 := H575.out.lt
      obtain ⟨q602, q603, q604⟩ := H576.out
      have l605 := H576.out.lt
      go_wp2_with fail
      (with_reducible refine (CQ.out _).mono ?_)
      rintro e W606 ⟨rfl, hb⟩
      have H607 := Lib.hid (((H570.out).old _).below hb)
      have H608 := Lib.hid (((H571.out).old _).below hb)
      have H609 := Lib.hid (((H572.out).old _).below hb)
      have H610 := Lib.hid (((H573.out).old _).below hb)
      have H611 := Lib.hid (((H574.out).old _).below hb)
      have H612 := Lib.hid (((H575.out).old _).below hb)
      have H613 := Lib.hid (((H576.out).old _).below hb)
      have H614 := Lib.hid ((At3.new W569 23 p).below hb)
      have B615 := bcall (bnew B577 _) hb
      clear hb B577 H570 H571 H572 H573 H574 H575 H576 q578 q579 q580 l581 q582 q583 q584 l585 q586 q587 q588 l589 q590 q591 q592 l593 q594 q595 q596 l597 q598 q599 q600 l601 q602 q603 q604 l605
      obtain ⟨q616, q617, q618⟩ := H607.out
      have l619 := H607.out.lt
      obtain ⟨q620, q621, q622⟩ := H608.out
      have l623 := H608.out.lt
      obtain ⟨q624, q625, q626⟩ := H609.out
      have l627 := H609.out.lt
      obtain ⟨q628, q629, q630⟩ := H610.out
      have l631 := H610.out.lt
      obtain ⟨q632, q633, q634⟩ := H611.out
      have l635 := H611.out.lt
      obtain ⟨q636, q637, q638⟩ := H612.out
      have l639 := H612.out.lt
      obtain ⟨q640, q641, q642⟩ := H613.out
      have l643 := H613.out.lt
      obtain ⟨q644, q645, q646⟩ := H614.out
      have l647 := H614.out.lt
      have kp := KP.out
      have kq := KQ.out
      clear KP KQ
      rcases kp with kp | ⟨kp, kp1, kp2, kp3⟩
      · subst kp
        clear kq
        go_wp2_with fail
        go_ret
        exact ⟨rfl, (bnew B615 _)⟩
      · rcases kq with kq | ⟨kq, kq1, kq2, kq3⟩
        · subst kp
          subst kq
          clear kp1 kp2 kp3
          go_wp2_with fail
          go_ret
          exact ⟨rfl, (bnew B615 _)⟩
        · subst kp
          subst kq
          subst kp3
          subst kq3
          obtain ⟨hl, CVv⟩ := HV.out kp1 kp2 kq1 kq2
          subst hl
          have CV := Lib.hid CVv
          clear CVv HV kp1 kp2 kq1 kq2
          go_wp2_with fail
          (with_reducible refine (CU.out _).mono ?_)
          rintro e W648 ⟨rfl, hb⟩
          have H649 := Lib.hid (((H607.out).old _).below hb)
          have H650 := Lib.hid (((H608.out).old _).below hb)
          have H651 := Lib.hid (((H609.out).old _).below hb)
          have H652 := Lib.hid (((H610.out).old _).below hb)
          have H653 := Lib.hid (((H611.out).old _).below hb)
          have H654 := Lib.hid (((H612.out).old _).below hb)
          have H655 := Lib.hid (((H613.out).old _).below hb)
          have H656 := Lib.hid (((H614.out).old _).below hb)
          have H657 := Lib.hid ((At3.new W606 23 (addV b c)).below hb)
          have B658 := bcall (bnew B615 _) hb
          clear hb B615 H607 H608 H609 H610 H611 H612 H613 H614 q616 q617 q618 l619 q620 q621 q622 l623 q624 q625 q626 l627 q628 q629 q630 l631 q632 q633 q634 l635 q636 q637 q638 l639 q640 q641 q642 l643 q644 q645 q646 l647
          obtain ⟨q659, q660, q661⟩ := H649.out
          have l662 := H649.out.lt
          obtain ⟨q663, q664, q665⟩ := H650.out
          have l666 := H650.out.lt
          obtain ⟨q667, q668, q669⟩ := H651.out
          have l670 := H651.out.lt
          obtain ⟨q671, q672, q673⟩ := H652.out
          have l674 := H652.out.lt
          obtain ⟨q675, q676, q677⟩ := H653.out
          have l678 := H653.out.lt
          obtain ⟨q679, q680, q681⟩ := H654.out
          have l682 := H654.out.lt
          obtain ⟨q683, q684, q685⟩ := H655.out
          have l686 := H655.out.lt
          obtain ⟨q687, q688, q689⟩ := H656.out
          have l690 := H656.out.lt
          obtain ⟨q691, q692, q693⟩ := H657.out
          have l694 := H657.out.lt
          go_wp2_with fail
          (with_reducible refine (CV.out _).mono ?_)
          rintro e W695 ⟨rfl, hb⟩
          have H696 := Lib.hid ((H649.out).below hb)
          have H697 := Lib.hid ((H650.out).below hb)
          have H698 := Lib.hid ((H651.out).below hb)
          have H699 := Lib.hid ((H652.out).below hb)
          have H700 := Lib.hid ((H653.out).below hb)
          have H701 := Lib.hid ((H654.out).below hb)
          have H702 := Lib.hid ((H655.out).below hb)
          have H703 := Lib.hid ((H656.out).below hb)
          have H704 := Lib.hid ((H657.out).below hb)
          have B705 := bcall B658 hb
          clear hb B658 H649 H650 H651 H652 H653 H654 H655 H656 H657 q659 q660 q661 l662 q663 q664 q665 l666 q667 q668 q669 l670 q671 q672 q673 l674 q675 q676 q677 l678 q679 q680 q681 l682 q683 q684 q685 l686 q687 q688 q689 l690 q691 q692 q693 l694
          obtain ⟨q706, q707, q708⟩ := H696.out
          have l709 := H696.out.lt
          obtain ⟨q710, q711, q712⟩ := H697.out
          have l713 := H697.out.lt
          obtain ⟨q714, q715, q716⟩ := H698.out
          have l717 := H698.out.lt
          obtain ⟨q718, q719, q720⟩ := H699.out
          have l721 := H699.out.lt
          obtain ⟨q722, q723, q724⟩ := H700.out
          have l725 := H700.out.lt
          obtain ⟨q726, q727, q728⟩ := H701.out
          have l729 := H701.out.lt
          obtain ⟨q730, q731, q732⟩ := H702.out
          have l733 := H702.out.lt
          obtain ⟨q734, q735, q736⟩ := H703.out
          have l737 := H703.out.lt
          obtain ⟨q738, q739, q740⟩ := H704.out
          have l741 := H704.out.lt
          go_wp2_with fail
          go_ret
          exact ⟨rfl, B705⟩
    · subst kh
      subst ky
      obtain ⟨⟨xb1, xb2, xb3⟩, o1, o2⟩ := HO.out kx
      have HKX := Lib.hid kx
      obtain ⟨i1, i2⟩ := two_in kx
      clear kx
      rw [inV_iff] at i1 i2
      obtain ⟨u1, u2, u3⟩ := i1
      obtain ⟨w1', w2', w3'⟩ := i2
      obtain ⟨pa1, pa2⟩ := prod_bd u1 xb1
      obtain ⟨pa3, pa4⟩ := prod_bd u2 xb2
      obtain ⟨pa5, pa6⟩ := prod_bd u3 xb3
      obtain ⟨pb1, pb2⟩ := prod_bd w1' xb1
      obtain ⟨pb3, pb4⟩ := prod_bd w2' xb2
      obtain ⟨pb5, pb6⟩ := prod_bd w3' xb3
      obtain ⟨xb11, xb12⟩ := xb1
      obtain ⟨xb21, xb22⟩ := xb2
      obtain ⟨xb31, xb32⟩ := xb3
      clear HO
      generalize hxx : crsV a b = x at *
      clear hxx
      have v1 : (x.1 != -y.1) = false := by simp [n1]
      have v2 : (x.2.1 != -y.2.1) = false := by simp [n2]
      have v3 : (x.2.2 != -y.2.2) = false := by simp [n3]
      have yb1 : -2000000000000 ≤ y.1 ∧ y.1 ≤ 2000000000000 := by omega
      have yb2 : -2000000000000 ≤ y.2.1 ∧ y.2.1 ≤ 2000000000000 := by omega
      have yb3 : -2000000000000 ≤ y.2.2 ∧ y.2.2 ≤ 2000000000000 := by omega
      clear n1 n2 n3 u1 u2 u3 w1' w2' w3'
      go_wp2_with fail
      (with_reducible refine (CP.out _).mono ?_)
      rintro e W742 ⟨rfl, hb⟩
      have H743 := Lib.hid (((H538.out).old _).below hb)
      have H744 := Lib.hid (((H539.out).old _).below hb)
      have H745 := Lib.hid (((H540.out).old _).below hb)
      have H746 := Lib.hid (((H541.out).old _).below hb)
      have H747 := Lib.hid (((H542.out).old _).below hb)
      have H748 := Lib.hid (((H543.out).old _).below hb)
      have H749 := Lib.hid ((At3.new W537 36 y).below hb)
      have B750 := bcall (bnew B544 _) hb
      clear hb B544 H538 H539 H540 H541 H542 H543 q545 q546 q547 l548 q549 q550 q551 l552 q553 q554 q555 l556 q557 q558 q559 l560 q561 q562 q563 l564 q565 q566 q567 l568
      obtain ⟨q751, q752, q753⟩ := H743.out
      have l754 := H743.out.lt
      obtain ⟨q755, q756, q757⟩ := H744.out
      have l758 := H744.out.lt
      obtain ⟨q759, q760, q761⟩ := H745.out
      have l762 := H745.out.lt
      obtain ⟨q763, q764, q765⟩ := H746.out
      have l766 := H746.out.lt
      obtain ⟨q767, q768, q769⟩ := H747.out
      have l770 := H747.out.lt
      obtain ⟨q771, q772, q773⟩ := H748.out
      have l774 := H748.out.lt
      obtain ⟨q775, q776, q777⟩ := H749.out
      have l778 := H749.out.lt
      go_wp2_with fail
      (with_reducible refine (CQ.out _).mono ?_)
      rintro e W779 ⟨rfl, hb⟩
      have H780 := Lib.hid (((H743.out).old _).below hb)
      have H781 := Lib.hid (((H744.out).old _).below hb)
      have H782 := Lib.hid (((H745.out).old _).below hb)
      have H783 := Lib.hid (((H746.out).old _).below hb)
      have H784 := Lib.hid (((H747.out).old _).below hb)
      have H785 := Lib.hid (((H748.out).old _).below hb)
      have H786 := Lib.hid (((H749.out).old _).below hb)
      have H787 := Lib.hid ((At3.new W742 23 p).below hb)
      have B788 := bcall (bnew B750 _) hb
      clear hb B750 H743 H744 H745 H746 H747 H748 H749 q751 q752 q753 l754 q755 q756 q757 l758 q759 q760 q761 l762 q763 q764 q765 l766 q767 q768 q769 l770 q771 q772 q773 l774 q775 q776 q777 l778
      obtain ⟨q789, q790, q791⟩ := H780.out
      have l792 := H780.out.lt
      obtain ⟨q793, q794, q795⟩ := H781.out
      have l796 := H781.out.lt
      obtain ⟨q797, q798, q799⟩ := H782.out
      have l800 := H782.out.lt
      obtain ⟨q801, q802, q803⟩ := H783.out
      have l804 := H783.out.lt
      obtain ⟨q805, q806, q807⟩ := H784.out
      have l808 := H784.out.lt
      obtain ⟨q809, q810, q811⟩ := H785.out
      have l812 := H785.out.lt
      obtain ⟨q813, q814, q815⟩ := H786.out
      have l816 := H786.out.lt
      obtain ⟨q817, q818, q819⟩ := H787.out
      have l820 := H787.out.lt
      have kp := KP.out
      have kq := KQ.out
      clear KP KQ
      rcases kp with kp | ⟨kp, kp1, kp2, kp3⟩
      · subst kp
        clear kq
        go_wp2_with fail
        go_ret
        exact ⟨rfl, (bnew B788 _)⟩
      · rcases kq with kq | ⟨kq, kq1, kq2, kq3⟩
        · subst kp
          subst kq
          clear kp1 kp2 kp3
          go_wp2_with fail
          go_ret
          exact ⟨rfl, (bnew B788 _)⟩
        · subst kp
          subst kq
          subst kp3
          subst kq3
          obtain ⟨hl, CVv⟩ := HV.out kp1 kp2 kq1 kq2
          subst hl
          have CV := Lib.hid CVv
          clear CVv HV kp1 kp2 kq1 kq2
          go_wp2_with fail
          (with_reducible refine (CU.out _).mono ?_)
          rintro e W821 ⟨rfl, hb⟩
          have H822 := Lib.hid (((H780.out).old _).below hb)
          have H823 := Lib.hid (((H781.out).old _).below hb)
          have H824 := Lib.hid (((H782.out).old _).below hb)
          have H825 := Lib.hid (((H783.out).old _).below hb)
          have H826 := Lib.hid (((H784.out).old _).below hb)
          have H827 := Lib.hid (((H785.out).old _).below hb)
          have H828 := Lib.hid (((H786.out).old _).below hb)
          have H829 := Lib.hid (((H787.out).old _).below hb)
          have H830 := Lib.hid ((At3.new W779 23 (addV b c)).below hb)
          have B831 := bcall (bnew B788 _) hb
          clear hb B788 H780 H781 H782 H783 H784 H785 H786 H787 q789 q790 q791 l792 q793 q794 q795 l796 q797 q798 q799 l800 q801 q802 q803 l804 q805 q806 q807 l808 q809 q810 q811 l812 q813 q814 q815 l816 q817 q818 q819 l820
          obtain ⟨q832, q833, q834⟩ := H822.out
          have l835 := H822.out.lt
          obtain ⟨q836, q837, q838⟩ := H823.out
          have l839 := H823.out.lt
          obtain ⟨q840, q841, q842⟩ := H824.out
          have l843 := H824.out.lt
          obtain ⟨q844, q845, q846⟩ := H825.out
          have l847 := H825.out.lt
          obtain ⟨q848, q849, q850⟩ := H826.out
          have l851 := H826.out.lt
          obtain ⟨q852, q853, q854⟩ := H827.out
          have l855 := H827.out.lt
          obtain ⟨q856, q857, q858⟩ := H828.out
          have l859 := H828.out.lt
          obtain ⟨q860, q861, q862⟩ := H829.out
          have l863 := H829.out.lt
          obtain ⟨q864, q865, q866⟩ := H830.out
          have l867 := H830.out.lt
          go_wp2_with fail
          (with_reducible refine (CV.out _).mono ?_)
          rintro e W868 ⟨rfl, hb⟩
          have H869 := Lib.hid ((H822.out).below hb)
          have H870 := Lib.hid ((H823.out).below hb)
          have H871 := Lib.hid ((H824.out).below hb)
          have H872 := Lib.hid ((H825.out).below hb)
          have H873 := Lib.hid ((H826.out).below hb)
          have H874 := Lib.hid ((H827.out).below hb)
          have H875 := Lib.hid ((H828.out).below hb)
          have H876 := Lib.hid ((H829.out).below hb)
          have H877 := Lib.hid ((H830.out).below hb)
          have B878 := bcall B831 hb
          clear hb B831 H822 H823 H824 H825 H826 H827 H828 H829 H830 q832 q833 q834 l835 q836 q837 q838 l839 q840 q841 q842 l843 q844 q845 q846 l847 q848 q849 q850 l851 q852 q853 q854 l855 q856 q857 q858 l859 q860 q861 q862 l863 q864 q865 q866 l867
          obtain ⟨q879, q880, q881⟩ := H869.out
          have l882 := H869.out.lt
          obtain ⟨q883, q884, q885⟩ := H870.out
          have l886 := H870.out.lt
          obtain ⟨q887, q888, q889⟩ := H871.out
          have l890 := H871.out.lt
          obtain ⟨q891, q892, q893⟩ := H872.out
          have l894 := H872.out.lt
          obtain ⟨q895, q896, q897⟩ := H873.out
          have l898 := H873.out.lt
          obtain ⟨q899, q900, q901⟩ := H874.out
          have l902 := H874.out.lt
          obtain ⟨q903, q904, q905⟩ := H875.out
          have l906 := H875.out.lt
          obtain ⟨q907, q908, q909⟩ := H876.out
          have l910 := H876.out.lt
          obtain ⟨q911, q912, q913⟩ := H877.out
          have l914 := H877.out.lt
          go_wp2_with fail
          go_ret
          exact ⟨rfl, B878⟩
end Go.Proofs.Ytejjalehbdghaaa
