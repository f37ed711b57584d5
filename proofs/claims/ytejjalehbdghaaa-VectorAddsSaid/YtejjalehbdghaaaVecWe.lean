/- The walks of VectorProducts and VectorAdds. -/
import Derived.Test.YtejjalehbdghaaaVecO
import Derived.Test.YtejjalehbdghaaaVecT
namespace Go.Proofs.Ytejjalehbdghaaa
open Go.RowKit
attribute [local go_sem ↓] Go.wp_at_zero Go.wp_at_succ
theorem mkb2 {w3 w' : World} {n0 n1 : Nat} {a b : V3} (h : Hid (At3 w3 n0 a ∧ At3 w3 n1 b)) (hb : Below w3.heap.size w3 w') : w'.cell? ⟨n0, 0, none⟩ = some (.int .i64 a.1) ∧ w'.cell? ⟨n0, 1, none⟩ = some (.int .i64 a.2.1) ∧ w'.cell? ⟨n0, 2, none⟩ = some (.int .i64 a.2.2) ∧ w'.cell? ⟨n1, 0, none⟩ = some (.int .i64 b.1) ∧ w'.cell? ⟨n1, 1, none⟩ = some (.int .i64 b.2.1) ∧ w'.cell? ⟨n1, 2, none⟩ = some (.int .i64 b.2.2) ∧ Below w3.heap.size w3 w' :=
  have h := h.out
  ⟨(h.1.below hb).1, (h.1.below hb).2.1, (h.1.below hb).2.2, (h.2.below hb).1, (h.2.below hb).2.1, (h.2.below hb).2.2, hb⟩
theorem bcb2 {w3 X w' : World} {p0 p1 p2 p3 p4 p5 : Prop} (h : p0 ∧ p1 ∧ p2 ∧ p3 ∧ p4 ∧ p5 ∧ Below w3.heap.size w3 X) (hb : Below X.heap.size X w') : Below w3.heap.size w3 w' := bcall h.2.2.2.2.2.2 hb
theorem mkb4 {w3 w' : World} {n0 n1 n2 n3 : Nat} {a b c d : V3} (h : Hid (At3 w3 n0 a ∧ At3 w3 n1 b ∧ At3 w3 n2 c ∧ At3 w3 n3 d)) (hb : Below w3.heap.size w3 w') : w'.cell? ⟨n0, 0, none⟩ = some (.int .i64 a.1) ∧ w'.cell? ⟨n0, 1, none⟩ = some (.int .i64 a.2.1) ∧ w'.cell? ⟨n0, 2, none⟩ = some (.int .i64 a.2.2) ∧ w'.cell? ⟨n1, 0, none⟩ = some (.int .i64 b.1) ∧ w'.cell? ⟨n1, 1, none⟩ = some (.int .i64 b.2.1) ∧ w'.cell? ⟨n1, 2, none⟩ = some (.int .i64 b.2.2) ∧ w'.cell? ⟨n2, 0, none⟩ = some (.int .i64 c.1) ∧ w'.cell? ⟨n2, 1, none⟩ = some (.int .i64 c.2.1) ∧ w'.cell? ⟨n2, 2, none⟩ = some (.int .i64 c.2.2) ∧ w'.cell? ⟨n3, 0, none⟩ = some (.int .i64 d.1) ∧ w'.cell? ⟨n3, 1, none⟩ = some (.int .i64 d.2.1) ∧ w'.cell? ⟨n3, 2, none⟩ = some (.int .i64 d.2.2) ∧ Below w3.heap.size w3 w' :=
  have h := h.out
  ⟨(h.1.below hb).1, (h.1.below hb).2.1, (h.1.below hb).2.2, (h.2.1.below hb).1, (h.2.1.below hb).2.1, (h.2.1.below hb).2.2, (h.2.2.1.below hb).1, (h.2.2.1.below hb).2.1, (h.2.2.1.below hb).2.2, (h.2.2.2.below hb).1, (h.2.2.2.below hb).2.1, (h.2.2.2.below hb).2.2, hb⟩
theorem bcb4 {w3 X w' : World} {p0 p1 p2 p3 p4 p5 p6 p7 p8 p9 p10 p11 : Prop} (h : p0 ∧ p1 ∧ p2 ∧ p3 ∧ p4 ∧ p5 ∧ p6 ∧ p7 ∧ p8 ∧ p9 ∧ p10 ∧ p11 ∧ Below w3.heap.size w3 X) (hb : Below X.heap.size X w') : Below w3.heap.size w3 w' := bcall h.2.2.2.2.2.2.2.2.2.2.2.2 hb
set_option maxHeartbeats 4000000 in
set_option maxRecDepth 100000 in
theorem products_walk (a : V3) (b : V3) (w : World) : Calls Try.prog 4 #[.agg #[.int .i64 a.1, .int .i64 a.2.1, .int .i64 a.2.2], .agg #[.int .i64 b.1, .int .i64 b.2.1, .int .i64 b.2.2]] w fun e w' => e = .returned (.bool true) ∧ Below w.heap.size w w' := by
  have C1 : Hid (∀ w, Calls Try.prog 22 #[.agg #[.int .i64 a.1, .int .i64 a.2.1, .int .i64 a.2.2], .agg #[.int .i64 b.1, .int .i64 b.2.1, .int .i64 b.2.2]] w fun e w' => e = .returned (.tuple #[.int .i64 (dotR a b).1, .int .i64 (dotR a b).2]) ∧ Below w.heap.size w w') := Lib.hid fun w => vDot_any a b w
  have C2 : Hid (∀ w, Calls Try.prog 23 #[.agg #[.int .i64 a.1, .int .i64 a.2.1, .int .i64 a.2.2], .agg #[.int .i64 b.1, .int .i64 b.2.1, .int .i64 b.2.2]] w fun e w' => e = .returned (.tuple #[.agg #[.int .i64 (crsR a b).1.1, .int .i64 (crsR a b).1.2.1, .int .i64 (crsR a b).1.2.2], .int .i64 (crsR a b).2]) ∧ Below w.heap.size w w') := Lib.hid fun w => vCross_any a b w
  have C3 : Hid (∀ w, Calls Try.prog 24 #[.agg #[.int .i64 a.1, .int .i64 a.2.1, .int .i64 a.2.2], .agg #[.int .i64 b.1, .int .i64 b.2.1, .int .i64 b.2.2]] w fun e w' => e = .returned (.tuple #[.int .i64 (dstR a b).1, .int .i64 (dstR a b).2]) ∧ Below w.heap.size w w') := Lib.hid fun w => vDistance_any a b w
  have Ia : Hid (∀ w, Calls Try.prog 16 #[.agg #[.int .i64 a.1, .int .i64 a.2.1, .int .i64 a.2.2]] w fun e w' => e = .returned (.bool (inV a)) ∧ Below w.heap.size w w') := Lib.hid fun w => rIn_any a w
  have Ib : Hid (∀ w, Calls Try.prog 16 #[.agg #[.int .i64 b.1, .int .i64 b.2.1, .int .i64 b.2.2]] w fun e w' => e = .returned (.bool (inV b)) ∧ Below w.heap.size w w') := Lib.hid fun w => rIn_any b w
  have ez : ∀ w, (binOp .eql 36 (.agg #[.int .i64 0, .int .i64 0, .int .i64 0]) (.agg #[.int .i64 0, .int .i64 0, .int .i64 0])).run Try.prog w = .ok (.bool true) w := fun _ => by kernel_rfl
  have ex := fun w => eqArr (crsV a b) w
  have K : ((inV a && inV b) = false ∧ dotR a b = (0, 6) ∧ crsR a b = ((0, 0, 0), 6) ∧ dstR a b = (0, 6)) ∨ ((inV a && inV b) = true ∧ dotR a b = (dotV a b, 0) ∧ crsR a b = (crsV a b, 0) ∧ dstR a b = (dotV (subV a b) (subV a b), 0)) := by
    unfold dotR crsR dstR
    rcases h : inV a && inV b with _ | _
    · left; exact ⟨rfl, rfl, rfl, rfl⟩
    · right; exact ⟨rfl, rfl, rfl, rfl⟩
  generalize dotR a b = x at *
  generalize crsR a b = y at *
  generalize dstR a b = z at *
  rcases K with ⟨kin, k1, k2, k3⟩ | ⟨kin, k1, k2, k3⟩
  · subst k1
    subst k2
    subst k3
    rcases ha : inV a with _ | _
    · rw [ha] at Ia
      clear kin ha ex
      go_enter Try.func4, Try.ntmps4
      go_wp2_with fail
      (with_reducible refine ((awake_any _)).mono ?_)
      rintro e W1 ⟨rfl, hb⟩
      have H2 := Lib.hid (((At3.new w 23 a).old _).below hb)
      have H3 := Lib.hid ((At3.new2 w _ 23 b).below hb)
      have B4 := bcall (bnew (bnew (Below.refl _ w) _) _) hb
      clear hb
      obtain ⟨q5, q6, q7⟩ := H2.out
      have l8 := H2.out.lt
      obtain ⟨q9, q10, q11⟩ := H3.out
      have l12 := H3.out.lt
      go_wp2_with fail
      (with_reducible refine (C1.out _).mono ?_)
      rintro e W13 ⟨rfl, hb⟩
      have H14 := Lib.hid ((H2.out).below hb)
      have H15 := Lib.hid ((H3.out).below hb)
      have B16 := bcall B4 hb
      clear hb B4 H2 H3 q5 q6 q7 l8 q9 q10 q11 l12
      obtain ⟨q17, q18, q19⟩ := H14.out
      have l20 := H14.out.lt
      obtain ⟨q21, q22, q23⟩ := H15.out
      have l24 := H15.out.lt
      go_wp2_with fail
      (with_reducible refine (C2.out _).mono ?_)
      rintro e W25 ⟨rfl, hb⟩
      have H26 := Lib.hid ((H14.out).below hb)
      have H27 := Lib.hid ((H15.out).below hb)
      have B28 := bcall B16 hb
      clear hb B16 H14 H15 q17 q18 q19 l20 q21 q22 q23 l24
      obtain ⟨q29, q30, q31⟩ := H26.out
      have l32 := H26.out.lt
      obtain ⟨q33, q34, q35⟩ := H27.out
      have l36 := H27.out.lt
      go_wp2_with fail
      (with_reducible refine (C3.out _).mono ?_)
      rintro e W37 ⟨rfl, hb⟩
      have H38 := Lib.hid (((H26.out).old _).below hb)
      have H39 := Lib.hid (((H27.out).old _).below hb)
      have H40 := Lib.hid ((At3.new W25 36 ((0, 0, 0) : V3)).below hb)
      have B41 := bcall (bnew B28 _) hb
      clear hb B28 H26 H27 q29 q30 q31 l32 q33 q34 q35 l36
      obtain ⟨q42, q43, q44⟩ := H38.out
      have l45 := H38.out.lt
      obtain ⟨q46, q47, q48⟩ := H39.out
      have l49 := H39.out.lt
      obtain ⟨q50, q51, q52⟩ := H40.out
      have l53 := H40.out.lt
      go_wp2_with fail
      (with_reducible refine (Ia.out _).mono ?_)
      rintro e W54 ⟨rfl, hb⟩
      have H55 := Lib.hid ((H38.out).below hb)
      have H56 := Lib.hid ((H39.out).below hb)
      have H57 := Lib.hid ((H40.out).below hb)
      have B58 := bcall B41 hb
      clear hb B41 H38 H39 H40 q42 q43 q44 l45 q46 q47 q48 l49 q50 q51 q52 l53
      obtain ⟨q59, q60, q61⟩ := H55.out
      have l62 := H55.out.lt
      obtain ⟨q63, q64, q65⟩ := H56.out
      have l66 := H56.out.lt
      obtain ⟨q67, q68, q69⟩ := H57.out
      have l70 := H57.out.lt
      go_wp2_with fail
      go_ret
      exact ⟨rfl, B58⟩
    · have hb : inV b = false := by simpa [ha] using kin
      rw [ha] at Ia
      rw [hb] at Ib
      clear kin ha hb ex
      go_enter Try.func4, Try.ntmps4
      go_wp2_with fail
      (with_reducible refine ((awake_any _)).mono ?_)
      rintro e W71 ⟨rfl, hb⟩
      have H72 := Lib.hid (((At3.new w 23 a).old _).below hb)
      have H73 := Lib.hid ((At3.new2 w _ 23 b).below hb)
      have B74 := bcall (bnew (bnew (Below.refl _ w) _) _) hb
      clear hb
      obtain ⟨q75, q76, q77⟩ := H72.out
      have l78 := H72.out.lt
      obtain ⟨q79, q80, q81⟩ := H73.out
      have l82 := H73.out.lt
      go_wp2_with fail
      (with_reducible refine (C1.out _).mono ?_)
      rintro e W83 ⟨rfl, hb⟩
      have H84 := Lib.hid ((H72.out).below hb)
      have H85 := Lib.hid ((H73.out).below hb)
      have B86 := bcall B74 hb
      clear hb B74 H72 H73 q75 q76 q77 l78 q79 q80 q81 l82
      obtain ⟨q87, q88, q89⟩ := H84.out
      have l90 := H84.out.lt
      obtain ⟨q91, q92, q93⟩ := H85.out
      have l94 := H85.out.lt
      go_wp2_with fail
      (with_reducible refine (C2.out _).mono ?_)
      rintro e W95 ⟨rfl, hb⟩
      have H96 := Lib.hid ((H84.out).below hb)
      have H97 := Lib.hid ((H85.out).below hb)
      have B98 := bcall B86 hb
      clear hb B86 H84 H85 q87 q88 q89 l90 q91 q92 q93 l94
      obtain ⟨q99, q100, q101⟩ := H96.out
      have l102 := H96.out.lt
      obtain ⟨q103, q104, q105⟩ := H97.out
      have l106 := H97.out.lt
      go_wp2_with fail
      (with_reducible refine (C3.out _).mono ?_)
      rintro e W107 ⟨rfl, hb⟩
      have H108 := Lib.hid (((H96.out).old _).below hb)
      have H109 := Lib.hid (((H97.out).old _).below hb)
      have H110 := Lib.hid ((At3.new W95 36 ((0, 0, 0) : V3)).below hb)
      have B111 := bcall (bnew B98 _) hb
      clear hb B98 H96 H97 q99 q100 q101 l102 q103 q104 q105 l106
      obtain ⟨q112, q113, q114⟩ := H108.out
      have l115 := H108.out.lt
      obtain ⟨q116, q117, q118⟩ := H109.out
      have l119 := H109.out.lt
      obtain ⟨q120, q121, q122⟩ := H110.out
      have l123 := H110.out.lt
      go_wp2_with fail
      (with_reducible refine (Ia.out _).mono ?_)
      rintro e W124 ⟨rfl, hb⟩
      have H125 := Lib.hid ((H108.out).below hb)
      have H126 := Lib.hid ((H109.out).below hb)
      have H127 := Lib.hid ((H110.out).below hb)
      have B128 := bcall B111 hb
      clear hb B111 H108 H109 H110 q112 q113 q114 l115 q116 q117 q118 l119 q120 q121 q122 l123
      obtain ⟨q129, q130, q131⟩ := H125.out
      have l132 := H125.out.lt
      obtain ⟨q133, q134, q135⟩ := H126.out
      have l136 := H126.out.lt
      obtain ⟨q137, q138, q139⟩ := H127.out
      have l140 := H127.out.lt
      go_wp2_with fail
      (with_reducible refine (Ib.out _).mono ?_)
      rintro e W141 ⟨rfl, hb⟩
      have H142 := Lib.hid ((H125.out).below hb)
      have H143 := Lib.hid ((H126.out).below hb)
      have H144 := Lib.hid ((H127.out).below hb)
      have B145 := bcall B128 hb
      clear hb B128 H125 H126 H127 q129 q130 q131 l132 q133 q134 q135 l136 q137 q138 q139 l140
      obtain ⟨q146, q147, q148⟩ := H142.out
      have l149 := H142.out.lt
      obtain ⟨q150, q151, q152⟩ := H143.out
      have l153 := H143.out.lt
      obtain ⟨q154, q155, q156⟩ := H144.out
      have l157 := H144.out.lt
      go_wp2_with fail
      go_ret
      exact ⟨rfl, B145⟩
  · subst k1
    subst k2
    subst k3
    obtain ⟨ha, hb⟩ := two_in kin
    rw [ha] at Ia
    rw [hb] at Ib
    rw [inV_iff] at ha hb
    obtain ⟨u1, u2, u3⟩ := ha
    obtain ⟨v1, v2, v3⟩ := hb
    have CS : Hid (∀ w, Calls Try.prog 21 #[.agg #[.int .i64 a.1, .int .i64 a.2.1, .int .i64 a.2.2], .agg #[.int .i64 b.1, .int .i64 b.2.1, .int .i64 b.2.2]] w fun e w' => e = .returned (.agg #[.int .i64 (subV a b).1, .int .i64 (subV a b).2.1, .int .i64 (subV a b).2.2]) ∧ Below w.heap.size w w') := Lib.hid fun w => rSub_any a b w (by omega) (by omega) (by omega)
    have D1 : Hid (∀ w, Calls Try.prog 25 #[.agg #[.int .i64 a.1, .int .i64 a.2.1, .int .i64 a.2.2], .agg #[.int .i64 b.1, .int .i64 b.2.1, .int .i64 b.2.2]] w fun e w' => e = .returned (.int .i64 (dotV a b)) ∧ Below w.heap.size w w') := Lib.hid fun w => rDot_any a b w (bd12 u1 v1) (bd12 u2 v2) (bd12 u3 v3)
    have D2 : Hid (∀ w, Calls Try.prog 26 #[.agg #[.int .i64 a.1, .int .i64 a.2.1, .int .i64 a.2.2], .agg #[.int .i64 b.1, .int .i64 b.2.1, .int .i64 b.2.2]] w fun e w' => e = .returned (.agg #[.int .i64 (crsV a b).1, .int .i64 (crsV a b).2.1, .int .i64 (crsV a b).2.2]) ∧ Below w.heap.size w w') := Lib.hid fun w => rCross_any a b w (bd12 u1 v2) (bd12 u1 v3) (bd12 u2 v1) (bd12 u2 v3) (bd12 u3 v1) (bd12 u3 v2)
    have s1 : -2000000 ≤ (subV a b).1 ∧ (subV a b).1 ≤ 2000000 := by unfold subV; dsimp only; omega
    have s2 : -2000000 ≤ (subV a b).2.1 ∧ (subV a b).2.1 ≤ 2000000 := by unfold subV; dsimp only; omega
    have s3 : -2000000 ≤ (subV a b).2.2 ∧ (subV a b).2.2 ≤ 2000000 := by unfold subV; dsimp only; omega
    have D3 : Hid (∀ w, Calls Try.prog 25 #[.agg #[.int .i64 (subV a b).1, .int .i64 (subV a b).2.1, .int .i64 (subV a b).2.2], .agg #[.int .i64 (subV a b).1, .int .i64 (subV a b).2.1, .int .i64 (subV a b).2.2]] w fun e w' => e = .returned (.int .i64 (dotV (subV a b) (subV a b))) ∧ Below w.heap.size w w') := Lib.hid fun w => rDot_any (subV a b) (subV a b) w (bd22 s1 s1) (bd22 s2 s2) (bd22 s3 s3)
    clear kin u1 u2 u3 v1 v2 v3 s1 s2 s3 ez
    generalize dotV a b = m at *
    generalize crsV a b = c at *
    generalize dotV (subV a b) (subV a b) = d at *
    generalize subV a b = s at *
    go_enter Try.func4, Try.ntmps4
    go_wp2_with fail
    (with_reducible refine ((awake_any _)).mono ?_)
    rintro e W158 ⟨rfl, hb⟩
    have H159 := Lib.hid (((At3.new w 23 a).old _).below hb)
    have H160 := Lib.hid ((At3.new2 w _ 23 b).below hb)
    have B161 := bcall (bnew (bnew (Below.refl _ w) _) _) hb
    clear hb
    obtain ⟨q162, q163, q164⟩ := H159.out
    have l165 := H159.out.lt
    obtain ⟨q166, q167, q168⟩ := H160.out
    have l169 := H160.out.lt
    go_wp2_with fail
    (with_reducible refine (C1.out _).mono ?_)
    rintro e W170 ⟨rfl, hb⟩
    have H171 := Lib.hid ((H159.out).below hb)
    have H172 := Lib.hid ((H160.out).below hb)
    have B173 := bcall B161 hb
    clear hb B161 H159 H160 q162 q163 q164 l165 q166 q167 q168 l169
    obtain ⟨q174, q175, q176⟩ := H171.out
    have l177 := H171.out.lt
    obtain ⟨q178, q179, q180⟩ := H172.out
    have l181 := H172.out.lt
    go_wp2_with fail
    (with_reducible refine (C2.out _).mono ?_)
    rintro e W182 ⟨rfl, hb⟩
    have H183 := Lib.hid ((H171.out).below hb)
    have H184 := Lib.hid ((H172.out).below hb)
    have B185 := bcall B173 hb
    clear hb B173 H171 H172 q174 q175 q176 l177 q178 q179 q180 l181
    obtain ⟨q186, q187, q188⟩ := H183.out
    have l189 := H183.out.lt
    obtain ⟨q190, q191, q192⟩ := H184.out
    have l193 := H184.out.lt
    go_wp2_with fail
    (with_reducible refine (C3.out _).mono ?_)
    rintro e W194 ⟨rfl, hb⟩
    have H195 := Lib.hid (((H183.out).old _).below hb)
    have H196 := Lib.hid (((H184.out).old _).below hb)
    have H197 := Lib.hid ((At3.new W182 36 c).below hb)
    have B198 := bcall (bnew B185 _) hb
    clear hb B185 H183 H184 q186 q187 q188 l189 q190 q191 q192 l193
    obtain ⟨q199, q200, q201⟩ := H195.out
    have l202 := H195.out.lt
    obtain ⟨q203, q204, q205⟩ := H196.out
    have l206 := H196.out.lt
    obtain ⟨q207, q208, q209⟩ := H197.out
    have l210 := H197.out.lt
    go_wp2_with fail
    (with_reducible refine (Ia.out _).mono ?_)
    rintro e W211 ⟨rfl, hb⟩
    have H212 := Lib.hid ((H195.out).below hb)
    have H213 := Lib.hid ((H196.out).below hb)
    have H214 := Lib.hid ((H197.out).below hb)
    have B215 := bcall B198 hb
    clear hb B198 H195 H196 H197 q199 q200 q201 l202 q203 q204 q205 l206 q207 q208 q209 l210
    obtain ⟨q216, q217, q218⟩ := H212.out
    have l219 := H212.out.lt
    obtain ⟨q220, q221, q222⟩ := H213.out
    have l223 := H213.out.lt
    obtain ⟨q224, q225, q226⟩ := H214.out
    have l227 := H214.out.lt
    go_wp2_with fail
    (with_reducible refine (Ib.out _).mono ?_)
    rintro e W228 ⟨rfl, hb⟩
    have H229 := Lib.hid ((H212.out).below hb)
    have H230 := Lib.hid ((H213.out).below hb)
    have H231 := Lib.hid ((H214.out).below hb)
    have B232 := bcall B215 hb
    clear hb B215 H212 H213 H214 q216 q217 q218 l219 q220 q221 q222 l223 q224 q225 q226 l227
    obtain ⟨q233, q234, q235⟩ := H229.out
    have l236 := H229.out.lt
    obtain ⟨q237, q238, q239⟩ := H230.out
    have l240 := H230.out.lt
    obtain ⟨q241, q242, q243⟩ := H231.out
    have l244 := H231.out.lt
    go_wp2_with fail
    (with_reducible refine (CS.out _).mono ?_)
    rintro e W245 ⟨rfl, hb⟩
    have H246 := Lib.hid ((H229.out).below hb)
    have H247 := Lib.hid ((H230.out).below hb)
    have H248 := Lib.hid ((H231.out).below hb)
    have B249 := bcall B232 hb
    clear hb B232 H229 H230 H231 q233 q234 q235 l236 q237 q238 q239 l240 q241 q242 q243 l244
    obtain ⟨q250, q251, q252⟩ := H246.out
    have l253 := H246.out.lt
    obtain ⟨q254, q255, q256⟩ := H247.out
    have l257 := H247.out.lt
    obtain ⟨q258, q259, q260⟩ := H248.out
    have l261 := H248.out.lt
    go_wp2_with fail
    have Q262 := Lib.hid (H246.out.old (.cells #[.int .i64 s.1, .int .i64 s.2.1, .int .i64 s.2.2] 23))
    have Q263 := Lib.hid (H247.out.old (.cells #[.int .i64 s.1, .int .i64 s.2.1, .int .i64 s.2.2] 23))
    have Q264 := Lib.hid (H248.out.old (.cells #[.int .i64 s.1, .int .i64 s.2.1, .int .i64 s.2.2] 23))
    have QS := Lib.hid (At3.new W245 23 s)
    have hbz := bnew B249 (.cells #[.int .i64 s.1, .int .i64 s.2.1, .int .i64 s.2.2] 23)
    clear q250 q251 q252 l253 q254 q255 q256 l257 q258 q259 q260 l261
    generalize (W245.alloc (.cells #[.int .i64 s.1, .int .i64 s.2.1, .int .i64 s.2.2] 23)) = w3 at *
    have HH265 := Lib.hid (⟨Q262.out, Q263.out, Q264.out, QS.out⟩ : _ ∧ _ ∧ _ ∧ _)
    go_region_held3 (fun w' => w'.cell? ⟨w.heap.size, 0, none⟩ = some (.int .i64 a.1) ∧ w'.cell? ⟨w.heap.size, 1, none⟩ = some (.int .i64 a.2.1) ∧ w'.cell? ⟨w.heap.size, 2, none⟩ = some (.int .i64 a.2.2) ∧ w'.cell? ⟨(w.heap.size + 1), 0, none⟩ = some (.int .i64 b.1) ∧ w'.cell? ⟨(w.heap.size + 1), 1, none⟩ = some (.int .i64 b.2.1) ∧ w'.cell? ⟨(w.heap.size + 1), 2, none⟩ = some (.int .i64 b.2.2) ∧ w'.cell? ⟨(W182.heap.size), 0, none⟩ = some (.int .i64 c.1) ∧ w'.cell? ⟨(W182.heap.size), 1, none⟩ = some (.int .i64 c.2.1) ∧ w'.cell? ⟨(W182.heap.size), 2, none⟩ = some (.int .i64 c.2.2) ∧ w'.cell? ⟨(W245.heap.size), 0, none⟩ = some (.int .i64 s.1) ∧ w'.cell? ⟨(W245.heap.size), 1, none⟩ = some (.int .i64 s.2.1) ∧ w'.cell? ⟨(W245.heap.size), 2, none⟩ = some (.int .i64 s.2.2) ∧ Below w3.heap.size w3 w')
      ((refine mkb4 HH265 ?_; repeat' first | (with_reducible assumption) | (with_reducible exact Below.refl _ _) | (with_reducible refine bnew ?_ _) | (with_reducible refine Below.drew ?_)))
      ((first | (go_at_call 25; (with_reducible refine (D1.out _).mono ?_); rintro e w' ⟨rfl, hb⟩; have hbb := bcb4 (by assumption) hb; clear hb) | (go_at_call 26; (with_reducible refine (D2.out _).mono ?_); rintro e w' ⟨rfl, hb⟩; have hbb := bcb4 (by assumption) hb; clear hb) | (go_at_call 25; (with_reducible refine (D3.out _).mono ?_); rintro e w' ⟨rfl, hb⟩; have hbb := bcb4 (by assumption) hb; clear hb)))
    all_goals
      rename_i hHl
      have hbb := bcb4 hHl (Below.refl _ _)
      clear hHl
      go_wp2_with fail
      go_ret
      exact ⟨rfl, bcall hbz hbb⟩
end Go.Proofs.Ytejjalehbdghaaa
