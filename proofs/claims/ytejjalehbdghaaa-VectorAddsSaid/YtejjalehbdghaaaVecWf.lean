/- The walk of VectorAdds. -/
import Derived.Test.YtejjalehbdghaaaVecWe
import Derived.Deep.RegionHeld3
namespace Go.Proofs.Ytejjalehbdghaaa
open Go.RowKit
attribute [local go_sem ↓] Go.wp_at_zero Go.wp_at_succ
set_option maxHeartbeats 4000000 in
set_option maxRecDepth 100000 in
theorem adds_walk (a : V3) (b : V3) (w : World) : Calls Try.prog 3 #[.agg #[.int .i64 a.1, .int .i64 a.2.1, .int .i64 a.2.2], .agg #[.int .i64 b.1, .int .i64 b.2.1, .int .i64 b.2.2]] w fun e w' => e = .returned (.bool true) ∧ Below w.heap.size w w' := by
  have C1 : Hid (∀ w, Calls Try.prog 13 #[.agg #[.int .i64 a.1, .int .i64 a.2.1, .int .i64 a.2.2], .agg #[.int .i64 b.1, .int .i64 b.2.1, .int .i64 b.2.2]] w fun e w' => e = .returned (.tuple #[.agg #[.int .i64 (addR a b).1.1, .int .i64 (addR a b).1.2.1, .int .i64 (addR a b).1.2.2], .int .i64 (addR a b).2]) ∧ Below w.heap.size w w') := Lib.hid fun w => vAdd_any a b w
  have C2 : Hid (∀ w, Calls Try.prog 14 #[.agg #[.int .i64 a.1, .int .i64 a.2.1, .int .i64 a.2.2], .agg #[.int .i64 b.1, .int .i64 b.2.1, .int .i64 b.2.2]] w fun e w' => e = .returned (.tuple #[.agg #[.int .i64 (subR a b).1.1, .int .i64 (subR a b).1.2.1, .int .i64 (subR a b).1.2.2], .int .i64 (subR a b).2]) ∧ Below w.heap.size w w') := Lib.hid fun w => vSub_any a b w
  have CC : Hid (∀ w, Calls Try.prog 15 #[.agg #[.int .i64 a.1, .int .i64 a.2.1, .int .i64 a.2.2]] w fun e w' => e = .returned (.int .i64 (errV [a])) ∧ Below w.heap.size w w') := Lib.hid fun w => vCheck_any a w
  have Ia : Hid (∀ w, Calls Try.prog 16 #[.agg #[.int .i64 a.1, .int .i64 a.2.1, .int .i64 a.2.2]] w fun e w' => e = .returned (.bool (inV a)) ∧ Below w.heap.size w w') := Lib.hid fun w => rIn_any a w
  have Ib : Hid (∀ w, Calls Try.prog 16 #[.agg #[.int .i64 b.1, .int .i64 b.2.1, .int .i64 b.2.2]] w fun e w' => e = .returned (.bool (inV b)) ∧ Below w.heap.size w w') := Lib.hid fun w => rIn_any b w
  have M1 : Hid (∀ w, Calls Try.prog 17 #[.agg #[.int .i64 a.1, .int .i64 a.2.1, .int .i64 a.2.2], .agg #[.int .i64 b.1, .int .i64 b.2.1, .int .i64 b.2.2]] w fun e w' => e = .returned (.int .i64 (cmpV a b)) ∧ Below w.heap.size w w') := Lib.hid fun w => vCompare_any a b w
  have M2 : Hid (∀ w, Calls Try.prog 18 #[.agg #[.int .i64 a.1, .int .i64 a.2.1, .int .i64 a.2.2], .agg #[.int .i64 b.1, .int .i64 b.2.1, .int .i64 b.2.2]] w fun e w' => e = .returned (.int .i64 (cmpV a b)) ∧ Below w.heap.size w w') := Lib.hid fun w => rCompare_any a b w
  have ez : ∀ w, (binOp .eql 23 (.agg #[.int .i64 0, .int .i64 0, .int .i64 0]) (.agg #[.int .i64 0, .int .i64 0, .int .i64 0])).run Try.prog w = .ok (.bool true) w := fun _ => by kernel_rfl
  have K : (inV a = false ∧ errV [a] = 6 ∧ addR a b = ((0, 0, 0), 6) ∧ subR a b = ((0, 0, 0), 6)) ∨ (inV a = true ∧ inV b = false ∧ errV [a] = 0 ∧ addR a b = ((0, 0, 0), 6) ∧ subR a b = ((0, 0, 0), 6)) ∨ (inV a = true ∧ inV b = true ∧ errV [a] = 0 ∧ addR a b = rngV (addV a b) ∧ subR a b = rngV (subV a b)) := by
    rw [errV1]
    unfold addR subR
    rcases ha : inV a with _ | _
    · left; exact ⟨rfl, rfl, rfl, rfl⟩
    · rcases hb : inV b with _ | _
      · right; left; exact ⟨rfl, rfl, rfl, rfl, rfl⟩
      · right; right; exact ⟨rfl, rfl, rfl, rfl, rfl⟩
  generalize addR a b = x at *
  generalize subR a b = y at *
  generalize errV [a] = ec at *
  generalize cmpV a b = cc at *
  rcases K with ⟨kin, k0, k1, k2⟩ | ⟨kin, kin2, k0, k1, k2⟩ | ⟨kin, kin2, k0, k1, k2⟩
  · subst k0
    subst k1
    subst k2
    rw [kin] at Ia
    clear kin
    go_enter Try.func3, Try.ntmps3
    go_wp2_with fail
    (with_reducible refine ((awake_any _)).mono ?_)
    rintro e W1 ⟨rfl, hb⟩
    have H2 := Lib.hid (((At3.new w 23 a).old _).below hb)
    have H3 := Lib.hid ((At3.new2 w _ 23 b).below hb)
    have B4 := bcall (bnew (bnew (Below.refl _ w) _) _) hb
    clear hb
    obtain ⟨q5, q6, q7⟩ := H2.out
    have l8 := H2.out.lt
    obtain ⟨q9, q10, q11⟩ := H3.out
    have l12 := H3.out.lt
    go_wp2_with fail
    (with_reducible refine (C1.out _).mono ?_)
    rintro e W13 ⟨rfl, hb⟩
    have H14 := Lib.hid ((H2.out).below hb)
    have H15 := Lib.hid ((H3.out).below hb)
    have B16 := bcall B4 hb
    clear hb B4 H2 H3 q5 q6 q7 l8 q9 q10 q11 l12
    obtain ⟨q17, q18, q19⟩ := H14.out
    have l20 := H14.out.lt
    obtain ⟨q21, q22, q23⟩ := H15.out
    have l24 := H15.out.lt
    go_wp2_with fail
    (with_reducible refine (C2.out _).mono ?_)
    rintro e W25 ⟨rfl, hb⟩
    have H26 := Lib.hid (((H14.out).old _).below hb)
    have H27 := Lib.hid (((H15.out).old _).below hb)
    have H28 := Lib.hid ((At3.new W13 23 ((0, 0, 0) : V3)).below hb)
    have B29 := bcall (bnew B16 _) hb
    clear hb B16 H14 H15 q17 q18 q19 l20 q21 q22 q23 l24
    obtain ⟨q30, q31, q32⟩ := H26.out
    have l33 := H26.out.lt
    obtain ⟨q34, q35, q36⟩ := H27.out
    have l37 := H27.out.lt
    obtain ⟨q38, q39, q40⟩ := H28.out
    have l41 := H28.out.lt
    go_wp2_with fail
    have Q42 := Lib.hid (H26.out.old (.cells #[.int .i64 ((0, 0, 0) : V3).1, .int .i64 ((0, 0, 0) : V3).2.1, .int .i64 ((0, 0, 0) : V3).2.2] 23))
    have Q43 := Lib.hid (H27.out.old (.cells #[.int .i64 ((0, 0, 0) : V3).1, .int .i64 ((0, 0, 0) : V3).2.1, .int .i64 ((0, 0, 0) : V3).2.2] 23))
    have Q44 := Lib.hid (H28.out.old (.cells #[.int .i64 ((0, 0, 0) : V3).1, .int .i64 ((0, 0, 0) : V3).2.1, .int .i64 ((0, 0, 0) : V3).2.2] 23))
    have Q45 := Lib.hid (At3.new W25 23 ((0, 0, 0) : V3))
    have Z46 := bnew B29 (.cells #[.int .i64 ((0, 0, 0) : V3).1, .int .i64 ((0, 0, 0) : V3).2.1, .int .i64 ((0, 0, 0) : V3).2.2] 23)
    clear q30 q31 q32 l33 q34 q35 q36 l37 q38 q39 q40 l41
    generalize (W25.alloc (.cells #[.int .i64 0, .int .i64 0, .int .i64 0] 23)) = w3 at *
    have HH47 := Lib.hid (⟨Q42.out, Q43.out⟩ : _ ∧ _)
    first | (go_region_held3 (fun w' => w'.cell? ⟨w.heap.size, 0, none⟩ = some (.int .i64 a.1) ∧ w'.cell? ⟨w.heap.size, 1, none⟩ = some (.int .i64 a.2.1) ∧ w'.cell? ⟨w.heap.size, 2, none⟩ = some (.int .i64 a.2.2) ∧ w'.cell? ⟨(w.heap.size + 1), 0, none⟩ = some (.int .i64 b.1) ∧ w'.cell? ⟨(w.heap.size + 1), 1, none⟩ = some (.int .i64 b.2.1) ∧ w'.cell? ⟨(w.heap.size + 1), 2, none⟩ = some (.int .i64 b.2.2) ∧ Below w3.heap.size w3 w')
      ((refine mkb2 HH47 ?_; repeat' first | (with_reducible assumption) | (with_reducible exact Below.refl _ _) | (with_reducible refine bnew ?_ _) | (with_reducible refine Below.drew ?_)))
      ((first | (go_at_call 15; (with_reducible refine (CC.out _).mono ?_); rintro e w' ⟨rfl, hb⟩; have hbb := bcb2 (by assumption) hb; clear hb) | (go_at_call 16; (with_reducible refine (Ia.out _).mono ?_); rintro e w' ⟨rfl, hb⟩; have hbb := bcb2 (by assumption) hb; clear hb) | (go_at_call 17; (with_reducible refine (M1.out _).mono ?_); rintro e w' ⟨rfl, hb⟩; have hbb := bcb2 (by assumption) hb; clear hb) | (go_at_call 18; (with_reducible refine (M2.out _).mono ?_); rintro e w' ⟨rfl, hb⟩; have hbb := bcb2 (by assumption) hb; clear hb)))) | fail
    rename_i hHl
    have hbb := bcb2 hHl (Below.refl _ _)
    clear hHl
    have H48 := Lib.hid (Q42.out.below hbb)
    have H49 := Lib.hid (Q43.out.below hbb)
    have H50 := Lib.hid (Q44.out.below hbb)
    have H51 := Lib.hid (Q45.out.below hbb)
    have B52 := bcall Z46 hbb
    clear hbb Z46
    obtain ⟨q53, q54, q55⟩ := H48.out
    obtain ⟨q56, q57, q58⟩ := H49.out
    obtain ⟨q59, q60, q61⟩ := H50.out
    dsimp only at q59 q60 q61
    obtain ⟨q62, q63, q64⟩ := H51.out
    dsimp only at q62 q63 q64
    go_wp2_with fail
    (with_reducible refine (Ia.out _).mono ?_)
    rintro e W65 ⟨rfl, hb⟩
    have H66 := Lib.hid ((H48.out).below hb)
    have H67 := Lib.hid ((H49.out).below hb)
    have H68 := Lib.hid ((H50.out).below hb)
    have H69 := Lib.hid ((H51.out).below hb)
    have B70 := bcall B52 hb
    clear hb B52 H48 H49 H50 H51 q53 q54 q55 q56 q57 q58 q59 q60 q61 q62 q63 q64
    obtain ⟨q71, q72, q73⟩ := H66.out
    have l74 := H66.out.lt
    obtain ⟨q75, q76, q77⟩ := H67.out
    have l78 := H67.out.lt
    obtain ⟨q79, q80, q81⟩ := H68.out
    have l82 := H68.out.lt
    obtain ⟨q83, q84, q85⟩ := H69.out
    have l86 := H69.out.lt
    go_wp2_with fail
    go_ret
    exact ⟨rfl, B70⟩
  · subst k0
    subst k1
    subst k2
    rw [kin] at Ia
    rw [kin2] at Ib
    clear kin kin2
    go_enter Try.func3, Try.ntmps3
    go_wp2_with fail
    (with_reducible refine ((awake_any _)).mono ?_)
    rintro e W87 ⟨rfl, hb⟩
    have H88 := Lib.hid (((At3.new w 23 a).old _).below hb)
    have H89 := Lib.hid ((At3.new2 w _ 23 b).below hb)
    have B90 := bcall (bnew (bnew (Below.refl _ w) _) _) hb
    clear hb
    obtain ⟨q91, q92, q93⟩ := H88.out
    have l94 := H88.out.lt
    obtain ⟨q95, q96, q97⟩ := H89.out
    have l98 := H89.out.lt
    go_wp2_with fail
    (with_reducible refine (C1.out _).mono ?_)
    rintro e W99 ⟨rfl, hb⟩
    have H100 := Lib.hid ((H88.out).below hb)
    have H101 := Lib.hid ((H89.out).below hb)
    have B102 := bcall B90 hb
    clear hb B90 H88 H89 q91 q92 q93 l94 q95 q96 q97 l98
    obtain ⟨q103, q104, q105⟩ := H100.out
    have l106 := H100.out.lt
    obtain ⟨q107, q108, q109⟩ := H101.out
    have l110 := H101.out.lt
    go_wp2_with fail
    (with_reducible refine (C2.out _).mono ?_)
    rintro e W111 ⟨rfl, hb⟩
    have H112 := Lib.hid (((H100.out).old _).below hb)
    have H113 := Lib.hid (((H101.out).old _).below hb)
    have H114 := Lib.hid ((At3.new W99 23 ((0, 0, 0) : V3)).below hb)
    have B115 := bcall (bnew B102 _) hb
    clear hb B102 H100 H101 q103 q104 q105 l106 q107 q108 q109 l110
    obtain ⟨q116, q117, q118⟩ := H112.out
    have l119 := H112.out.lt
    obtain ⟨q120, q121, q122⟩ := H113.out
    have l123 := H113.out.lt
    obtain ⟨q124, q125, q126⟩ := H114.out
    have l127 := H114.out.lt
    go_wp2_with fail
    have Q128 := Lib.hid (H112.out.old (.cells #[.int .i64 ((0, 0, 0) : V3).1, .int .i64 ((0, 0, 0) : V3).2.1, .int .i64 ((0, 0, 0) : V3).2.2] 23))
    have Q129 := Lib.hid (H113.out.old (.cells #[.int .i64 ((0, 0, 0) : V3).1, .int .i64 ((0, 0, 0) : V3).2.1, .int .i64 ((0, 0, 0) : V3).2.2] 23))
    have Q130 := Lib.hid (H114.out.old (.cells #[.int .i64 ((0, 0, 0) : V3).1, .int .i64 ((0, 0, 0) : V3).2.1, .int .i64 ((0, 0, 0) : V3).2.2] 23))
    have Q131 := Lib.hid (At3.new W111 23 ((0, 0, 0) : V3))
    have Z132 := bnew B115 (.cells #[.int .i64 ((0, 0, 0) : V3).1, .int .i64 ((0, 0, 0) : V3).2.1, .int .i64 ((0, 0, 0) : V3).2.2] 23)
    clear q116 q117 q118 l119 q120 q121 q122 l123 q124 q125 q126 l127
    generalize (W111.alloc (.cells #[.int .i64 0, .int .i64 0, .int .i64 0] 23)) = w3 at *
    have HH133 := Lib.hid (⟨Q128.out, Q129.out⟩ : _ ∧ _)
    refine wp_region_held_drew (S := (fun w' => w'.cell? ⟨w.heap.size, 0, none⟩ = some (.int .i64 a.1) ∧ w'.cell? ⟨w.heap.size, 1, none⟩ = some (.int .i64 a.2.1) ∧ w'.cell? ⟨w.heap.size, 2, none⟩ = some (.int .i64 a.2.2) ∧ w'.cell? ⟨(w.heap.size + 1), 0, none⟩ = some (.int .i64 b.1) ∧ w'.cell? ⟨(w.heap.size + 1), 1, none⟩ = some (.int .i64 b.2.1) ∧ w'.cell? ⟨(w.heap.size + 1), 2, none⟩ = some (.int .i64 b.2.2) ∧ Below w3.heap.size w3 w')) (by kernel_rfl) ?_ (fun hHeld => ?_)
    · (try dsimp only)
      (refine mkb2 HH133 ?_; repeat' first | (with_reducible assumption) | (with_reducible exact Below.refl _ _) | (with_reducible refine bnew ?_ _) | (with_reducible refine Below.drew ?_))
    refine wpAnyH_take (i := 0) (oi := _) (v := ?_) rfl (by kernel_rfl) (by kernel_rfl) (by kernel_rfl) (fun _ _ _ h => h) (Or.inl ⟨by rfl, ?_⟩) (by assumption) ?_
    rotate_left
    · intro w hSw
      (try dsimp only at hSw)
      go_simp
      try (with_reducible rfl)
    try simp only [Act.put, List.setIfInBounds_toArray]
    refine wpAnyH_take (i := 3) (oi := _) (v := ?_) rfl (by kernel_rfl) (by kernel_rfl) (by kernel_rfl) (fun _ _ _ h => h) (Or.inl ⟨by rfl, ?_⟩) (by assumption) ?_
    rotate_left
    · intro w hSw
      (try dsimp only at hSw)
      go_simp
      try (with_reducible rfl)
    try simp only [Act.put]
    refine wpAnyH_ready (rs := [1]) (by kernel_rfl) (by simp) ?_
    refine AllReadyH.cons (o := _) rfl (fun K hK => ?_) AllReadyH.nil
    go_simp
    (with_reducible refine (CC.out _).mono ?_)
    rintro e w5 ⟨rfl, hb⟩
    have hbb := bcb2 hHeld hb
    clear hb
    go_wp2_with fail
    refine hK.out _ _ ?_ (fun hHeld => ?_)
    · (try dsimp only)
      (refine mkb2 HH133 ?_; repeat' first | (with_reducible assumption) | (with_reducible exact Below.refl _ _) | (with_reducible refine bnew ?_ _) | (with_reducible refine Below.drew ?_))
    clear hK K
    try simp only [Act.put, List.setIfInBounds_toArray, List.set_cons_succ]
    refine wpAnyH_take (i := 2) (oi := _) (v := ?_) rfl (by kernel_rfl) (by kernel_rfl) (by kernel_rfl) (fun _ _ _ h => h) (Or.inl ⟨by rfl, ?_⟩) (by assumption) ?_
    rotate_left
    · intro w hSw
      (try dsimp only at hSw)
      go_simp
      try (with_reducible rfl)
    try simp only [Act.put, List.setIfInBounds_toArray]
    refine wpAnyH_ready (rs := [4]) (by kernel_rfl) (by simp) ?_
    refine AllReadyH.cons (o := _) rfl (fun K hK => ?_) AllReadyH.nil
    go_simp
    (with_reducible refine (Ia.out _).mono ?_)
    rintro e w5 ⟨rfl, hb⟩
    have hbb := bcb2 hHeld hb
    clear hb
    go_wp2_with fail
    refine hK.out _ _ ?_ (fun hHeld => ?_)
    · (try dsimp only)
      (refine mkb2 HH133 ?_; repeat' first | (with_reducible assumption) | (with_reducible exact Below.refl _ _) | (with_reducible refine bnew ?_ _) | (with_reducible refine Below.drew ?_))
    clear hK K
    try simp only [Act.put, List.setIfInBounds_toArray, List.set_cons_succ]
    refine wpAnyH_take (i := 5) (oi := _) (v := ?_) rfl (by kernel_rfl) (by kernel_rfl) (by kernel_rfl) (fun _ _ _ h => h) (Or.inl ⟨by rfl, ?_⟩) (by assumption) ?_
    rotate_left
    · intro w hSw
      (try dsimp only at hSw)
      go_simp
      try (with_reducible rfl)
    try simp only [Act.put, List.setIfInBounds_toArray]
    refine wpAnyH_take (i := 6) (oi := _) (v := ?_) rfl (by kernel_rfl) (by kernel_rfl) (by kernel_rfl) (fun _ _ _ h => h) (Or.inl ⟨by rfl, ?_⟩) (by assumption) ?_
    rotate_left
    · intro w hSw
      (try dsimp only at hSw)
      go_simp
      try (with_reducible rfl)
    try simp only [Act.put]
    refine wpAnyH_take (i := 7) (oi := _) (v := ?_) rfl (by kernel_rfl) (by kernel_rfl) (by kernel_rfl) (fun _ _ _ h => h) (Or.inl ⟨by rfl, ?_⟩) (by assumption) ?_
    rotate_left
    · intro w hSw
      (try dsimp only at hSw)
      go_simp
      try (with_reducible rfl)
    try simp only [Act.put]
    refine wpAnyH_ready (rs := [8]) (by kernel_rfl) (by simp) ?_
    refine AllReadyH.cons (o := _) rfl (fun K hK => ?_) AllReadyH.nil
    go_simp
    (with_reducible refine (CC.out _).mono ?_)
    rintro e w5 ⟨rfl, hb⟩
    have hbb := bcb2 hHeld hb
    clear hb
    go_wp2_with fail
    refine hK.out _ _ ?_ (fun hHeld => ?_)
    · (try dsimp only)
      (refine mkb2 HH133 ?_; repeat' first | (with_reducible assumption) | (with_reducible exact Below.refl _ _) | (with_reducible refine bnew ?_ _) | (with_reducible refine Below.drew ?_))
    clear hK K
    try simp only [Act.put, List.setIfInBounds_toArray, List.set_cons_succ]
    refine wpAnyH_take (i := 9) (oi := _) (v := ?_) rfl (by kernel_rfl) (by kernel_rfl) (by kernel_rfl) (fun _ _ _ h => h) (Or.inl ⟨by rfl, ?_⟩) (by assumption) ?_
    rotate_left
    · intro w hSw
      (try dsimp only at hSw)
      go_simp
      try (with_reducible rfl)
    try simp only [Act.put, List.setIfInBounds_toArray]
    refine wpAnyH_take (i := 10) (oi := _) (v := ?_) rfl (by kernel_rfl) (by kernel_rfl) (by kernel_rfl) (fun _ _ _ h => h) (Or.inl ⟨by rfl, ?_⟩) (by assumption) ?_
    rotate_left
    · intro w hSw
      (try dsimp only at hSw)
      go_simp
      try (with_reducible rfl)
    try simp only [Act.put]
    refine wpAnyH_ready (rs := [11]) (by kernel_rfl) (by simp) ?_
    refine AllReadyH.cons (o := _) rfl (fun K hK => ?_) AllReadyH.nil
    go_simp
    refine hK.out _ _ ?_ (fun hHeld => ?_)
    · (try dsimp only)
      (refine mkb2 HH133 ?_; repeat' first | (with_reducible assumption) | (with_reducible exact Below.refl _ _) | (with_reducible refine bnew ?_ _) | (with_reducible refine Below.drew ?_))
    clear hK K
    try simp only [Act.put, List.setIfInBounds_toArray, List.set_cons_succ]
    refine wpAnyH_ready (rs := [12]) (by kernel_rfl) (by simp) ?_
    refine AllReadyH.cons (o := _) rfl (fun K hK => ?_) AllReadyH.nil
    go_simp
    refine hK.out _ _ ?_ (fun hHeld => ?_)
    · (try dsimp only)
      (refine mkb2 HH133 ?_; repeat' first | (with_reducible assumption) | (with_reducible exact Below.refl _ _) | (with_reducible refine bnew ?_ _) | (with_reducible refine Below.drew ?_))
    clear hK K
    try simp only [Act.put, List.setIfInBounds_toArray, List.set_cons_succ]
    refine wpAnyH_ready (rs := [13]) (by kernel_rfl) (by simp) ?_
    refine AllReadyH.cons (o := _) rfl (fun K hK => ?_) AllReadyH.nil
    go_simp
    refine hK.out _ _ ?_ (fun hHeld => ?_)
    · (try dsimp only)
      (refine mkb2 HH133 ?_; repeat' first | (with_reducible assumption) | (with_reducible exact Below.refl _ _) | (with_reducible refine bnew ?_ _) | (with_reducible refine Below.drew ?_))
    clear hK K
    try simp only [Act.put, List.setIfInBounds_toArray, List.set_cons_succ]
    refine wpAnyH_take (i := 14) (oi := _) (v := ?_) rfl (by kernel_rfl) (by kernel_rfl) (by kernel_rfl) (fun _ _ _ h => h) (Or.inl ⟨by rfl, ?_⟩) (by assumption) ?_
    rotate_left
    · intro w hSw
      (try dsimp only at hSw)
      go_simp
      try (with_reducible rfl)
    try simp only [Act.put, List.setIfInBounds_toArray]
    refine wpAnyH_take (i := 15) (oi := _) (v := ?_) rfl (by kernel_rfl) (by kernel_rfl) (by kernel_rfl) (fun _ _ _ h => h) (Or.inl ⟨by rfl, ?_⟩) (by assumption) ?_
    rotate_left
    · intro w hSw
      (try dsimp only at hSw)
      go_simp
      try (with_reducible rfl)
    try simp only [Act.put]
    refine wpAnyH_take (i := 16) (oi := _) (v := ?_) rfl (by kernel_rfl) (by kernel_rfl) (by kernel_rfl) (fun _ _ _ h => h) (Or.inl ⟨by rfl, ?_⟩) (by assumption) ?_
    rotate_left
    · intro w hSw
      (try dsimp only at hSw)
      go_simp
      try (with_reducible rfl)
    try simp only [Act.put]
    refine wpAnyH_take (i := 17) (oi := _) (v := ?_) rfl (by kernel_rfl) (by kernel_rfl) (by kernel_rfl) (fun _ _ _ h => h) (Or.inl ⟨by rfl, ?_⟩) (by assumption) ?_
    rotate_left
    · intro w hSw
      (try dsimp only at hSw)
      go_simp
      try (with_reducible rfl)
    try simp only [Act.put]
    refine wpAnyH_take (i := 18) (oi := _) (v := ?_) rfl (by kernel_rfl) (by kernel_rfl) (by kernel_rfl) (fun _ _ _ h => h) (Or.inl ⟨by rfl, ?_⟩) (by assumption) ?_
    rotate_left
    · intro w hSw
      (try dsimp only at hSw)
      go_simp
      try (with_reducible rfl)
    try simp only [Act.put]
    refine wpAnyH_take (i := 20) (oi := _) (v := ?_) rfl (by kernel_rfl) (by kernel_rfl) (by kernel_rfl) (fun _ _ _ h => h) (Or.inl ⟨by rfl, ?_⟩) (by assumption) ?_
    rotate_left
    · intro w hSw
      (try dsimp only at hSw)
      go_simp
      try (with_reducible rfl)
    try simp only [Act.put]
    refine wpAnyH_take (i := 21) (oi := _) (v := ?_) rfl (by kernel_rfl) (by kernel_rfl) (by kernel_rfl) (fun _ _ _ h => h) (Or.inl ⟨by rfl, ?_⟩) (by assumption) ?_
    rotate_left
    · intro w hSw
      (try dsimp only at hSw)
      go_simp
      try (with_reducible rfl)
    try simp only [Act.put]
    refine wpAnyH_ready (rs := [19]) (by kernel_rfl) (by simp) ?_
    refine AllReadyH.cons (o := _) rfl (fun K hK => ?_) AllReadyH.nil
    go_simp
    (with_reducible refine (M1.out _).mono ?_)
    rintro e w5 ⟨rfl, hb⟩
    have hbb := bcb2 hHeld hb
    clear hb
    go_wp2_with fail
    refine hK.out _ _ ?_ (fun hHeld => ?_)
    · (try dsimp only)
      (refine mkb2 HH133 ?_; repeat' first | (with_reducible assumption) | (with_reducible exact Below.refl _ _) | (with_reducible refine bnew ?_ _) | (with_reducible refine Below.drew ?_))
    clear hK K
    try simp only [Act.put, List.setIfInBounds_toArray, List.set_cons_succ]
    refine wpAnyH_ready (rs := [22]) (by kernel_rfl) (by simp) ?_
    refine AllReadyH.cons (o := _) rfl (fun K hK => ?_) AllReadyH.nil
    go_simp
    (with_reducible refine (M2.out _).mono ?_)
    rintro e w5 ⟨rfl, hb⟩
    have hbb := bcb2 hHeld hb
    clear hb
    go_wp2_with fail
    refine hK.out _ _ ?_ (fun hHeld => ?_)
    · (try dsimp only)
      (refine mkb2 HH133 ?_; repeat' first | (with_reducible assumption) | (with_reducible exact Below.refl _ _) | (with_reducible refine bnew ?_ _) | (with_reducible refine Below.drew ?_))
    clear hK K
    try simp only [Act.put, List.setIfInBounds_toArray, List.set_cons_succ]
    refine wpAnyH_take (i := 23) (oi := _) (v := ?_) rfl (by kernel_rfl) (by kernel_rfl) (by kernel_rfl) (fun _ _ _ h => h) (Or.inl ⟨by rfl, ?_⟩) (by assumption) ?_
    rotate_left
    · intro w hSw
      (try dsimp only at hSw)
      go_simp
      try (with_reducible rfl)
    try simp only [Act.put, List.setIfInBounds_toArray]
    refine wpAnyH_take (i := 24) (oi := _) (v := ?_) rfl (by kernel_rfl) (by kernel_rfl) (by kernel_rfl) (fun _ _ _ h => h) (Or.inl ⟨by rfl, ?_⟩) (by assumption) ?_
    rotate_left
    · intro w hSw
      (try dsimp only at hSw)
      go_simp
      try (with_reducible rfl)
    try simp only [Act.put]
    refine wpAnyH_done (by kernel_rfl) ?_ _
    have hbb := bcb2 hHeld (Below.refl _ _)
    clear hHeld
    have H134 := Lib.hid (Q128.out.below hbb)
    have H135 := Lib.hid (Q129.out.below hbb)
    have H136 := Lib.hid (Q130.out.below hbb)
    have H137 := Lib.hid (Q131.out.below hbb)
    have B138 := bcall Z132 hbb
    clear hbb Z132
    obtain ⟨q139, q140, q141⟩ := H134.out
    obtain ⟨q142, q143, q144⟩ := H135.out
    obtain ⟨q145, q146, q147⟩ := H136.out
    dsimp only at q145 q146 q147
    obtain ⟨q148, q149, q150⟩ := H137.out
    dsimp only at q148 q149 q150
    go_wp2_with fail
    (with_reducible refine (Ia.out _).mono ?_)
    rintro e W151 ⟨rfl, hb⟩
    have H152 := Lib.hid ((H134.out).below hb)
    have H153 := Lib.hid ((H135.out).below hb)
    have H154 := Lib.hid ((H136.out).below hb)
    have H155 := Lib.hid ((H137.out).below hb)
    have B156 := bcall B138 hb
    clear hb B138 H134 H135 H136 H137 q139 q140 q141 q142 q143 q144 q145 q146 q147 q148 q149 q150
    obtain ⟨q157, q158, q159⟩ := H152.out
    have l160 := H152.out.lt
    obtain ⟨q161, q162, q163⟩ := H153.out
    have l164 := H153.out.lt
    obtain ⟨q165, q166, q167⟩ := H154.out
    have l168 := H154.out.lt
    obtain ⟨q169, q170, q171⟩ := H155.out
    have l172 := H155.out.lt
    go_wp2_with fail
    (with_reducible refine (Ib.out _).mono ?_)
    rintro e W173 ⟨rfl, hb⟩
    have H174 := Lib.hid ((H152.out).below hb)
    have H175 := Lib.hid ((H153.out).below hb)
    have H176 := Lib.hid ((H154.out).below hb)
    have H177 := Lib.hid ((H155.out).below hb)
    have B178 := bcall B156 hb
    clear hb B156 H152 H153 H154 H155 q157 q158 q159 l160 q161 q162 q163 l164 q165 q166 q167 l168 q169 q170 q171 l172
    obtain ⟨q179, q180, q181⟩ := H174.out
    have l182 := H174.out.lt
    obtain ⟨q183, q184, q185⟩ := H175.out
    have l186 := H175.out.lt
    obtain ⟨q187, q188, q189⟩ := H176.out
    have l190 := H176.out.lt
    obtain ⟨q191, q192, q193⟩ := H177.out
    have l194 := H177.out.lt
    go_wp2_with fail
    go_ret
    exact ⟨rfl, B178⟩
  · subst k0
    have ha := (inV_iff a).1 kin
    have hb := (inV_iff b).1 kin2
    have R1 : Hid (∀ w, Calls Try.prog 20 #[.agg #[.int .i64 a.1, .int .i64 a.2.1, .int .i64 a.2.2], .agg #[.int .i64 b.1, .int .i64 b.2.1, .int .i64 b.2.2]] w fun e w' => e = .returned (.agg #[.int .i64 (addV a b).1, .int .i64 (addV a b).2.1, .int .i64 (addV a b).2.2]) ∧ Below w.heap.size w w') := Lib.hid fun w => rAdd_any a b w (by omega) (by omega) (by omega)
    have R2 : Hid (∀ w, Calls Try.prog 21 #[.agg #[.int .i64 a.1, .int .i64 a.2.1, .int .i64 a.2.2], .agg #[.int .i64 b.1, .int .i64 b.2.1, .int .i64 b.2.2]] w fun e w' => e = .returned (.agg #[.int .i64 (subV a b).1, .int .i64 (subV a b).2.1, .int .i64 (subV a b).2.2]) ∧ Below w.heap.size w w') := Lib.hid fun w => rSub_any a b w (by omega) (by omega) (by omega)
    have L1 : Hid (∀ w, Calls Try.prog 19 #[.agg #[.int .i64 (addV a b).1, .int .i64 (addV a b).2.1, .int .i64 (addV a b).2.2], .agg #[.int .i64 (rngV (addV a b)).1.1, .int .i64 (rngV (addV a b)).1.2.1, .int .i64 (rngV (addV a b)).1.2.2], .int .i64 (rngV (addV a b)).2] w fun e w' => e = .returned (.bool true) ∧ Below w.heap.size w w') := Lib.hid fun w => lsum_any (addV a b) w
    have L2 : Hid (∀ w, Calls Try.prog 19 #[.agg #[.int .i64 (subV a b).1, .int .i64 (subV a b).2.1, .int .i64 (subV a b).2.2], .agg #[.int .i64 (rngV (subV a b)).1.1, .int .i64 (rngV (subV a b)).1.2.1, .int .i64 (rngV (subV a b)).1.2.2], .int .i64 (rngV (subV a b)).2] w fun e w' => e = .returned (.bool true) ∧ Below w.heap.size w w') := Lib.hid fun w => lsum_any (subV a b) w
    subst k1
    subst k2
    rw [kin] at Ia
    rw [kin2] at Ib
    clear kin kin2 ha hb
    generalize rngV (addV a b) = x at *
    generalize rngV (subV a b) = y at *
    generalize addV a b = p at *
    generalize subV a b = q at *
    obtain ⟨x, e1⟩ := x
    obtain ⟨y, e2⟩ := y
    dsimp only at *
    go_enter Try.func3, Try.ntmps3
    go_wp2_with fail
    (with_reducible refine ((awake_any _)).mono ?_)
    rintro e W195 ⟨rfl, hb⟩
    have H196 := Lib.hid (((At3.new w 23 a).old _).below hb)
    have H197 := Lib.hid ((At3.new2 w _ 23 b).below hb)
    have B198 := bcall (bnew (bnew (Below.refl _ w) _) _) hb
    clear hb
    obtain ⟨q199, q200, q201⟩ := H196.out
    have l202 := H196.out.lt
    obtain ⟨q203, q204, q205⟩ := H197.out
    have l206 := H197.out.lt
    go_wp2_with fail
    (with_reducible refine (C1.out _).mono ?_)
    rintro e W207 ⟨rfl, hb⟩
    have H208 := Lib.hid ((H196.out).below hb)
    have H209 := Lib.hid ((H197.out).below hb)
    have B210 := bcall B198 hb
    clear hb B198 H196 H197 q199 q200 q201 l202 q203 q204 q205 l206
    obtain ⟨q211, q212, q213⟩ := H208.out
    have l214 := H208.out.lt
    obtain ⟨q215, q216, q217⟩ := H209.out
    have l218 := H209.out.lt
    go_wp2_with fail
    (with_reducible refine (C2.out _).mono ?_)
    rintro e W219 ⟨rfl, hb⟩
    have H220 := Lib.hid (((H208.out).old _).below hb)
    have H221 := Lib.hid (((H209.out).old _).below hb)
    have H222 := Lib.hid ((At3.new W207 23 x).below hb)
    have B223 := bcall (bnew B210 _) hb
    clear hb B210 H208 H209 q211 q212 q213 l214 q215 q216 q217 l218
    obtain ⟨q224, q225, q226⟩ := H220.out
    have l227 := H220.out.lt
    obtain ⟨q228, q229, q230⟩ := H221.out
    have l231 := H221.out.lt
    obtain ⟨q232, q233, q234⟩ := H222.out
    have l235 := H222.out.lt
    go_wp2_with fail
    have Q236 := Lib.hid (H220.out.old (.cells #[.int .i64 y.1, .int .i64 y.2.1, .int .i64 y.2.2] 23))
    have Q237 := Lib.hid (H221.out.old (.cells #[.int .i64 y.1, .int .i64 y.2.1, .int .i64 y.2.2] 23))
    have Q238 := Lib.hid (H222.out.old (.cells #[.int .i64 y.1, .int .i64 y.2.1, .int .i64 y.2.2] 23))
    have Q239 := Lib.hid (At3.new W219 23 y)
    have Z240 := bnew B223 (.cells #[.int .i64 y.1, .int .i64 y.2.1, .int .i64 y.2.2] 23)
    clear q224 q225 q226 l227 q228 q229 q230 l231 q232 q233 q234 l235
    generalize (W219.alloc (.cells #[.int .i64 y.1, .int .i64 y.2.1, .int .i64 y.2.2] 23)) = w3 at *
    have HH241 := Lib.hid (⟨Q236.out, Q237.out⟩ : _ ∧ _)
    refine wp_region_held_drew (S := (fun w' => w'.cell? ⟨w.heap.size, 0, none⟩ = some (.int .i64 a.1) ∧ w'.cell? ⟨w.heap.size, 1, none⟩ = some (.int .i64 a.2.1) ∧ w'.cell? ⟨w.heap.size, 2, none⟩ = some (.int .i64 a.2.2) ∧ w'.cell? ⟨(w.heap.size + 1), 0, none⟩ = some (.int .i64 b.1) ∧ w'.cell? ⟨(w.heap.size + 1), 1, none⟩ = some (.int .i64 b.2.1) ∧ w'.cell? ⟨(w.heap.size + 1), 2, none⟩ = some (.int .i64 b.2.2) ∧ Below w3.heap.size w3 w')) (by kernel_rfl) ?_ (fun hHeld => ?_)
    · (try dsimp only)
      (refine mkb2 HH241 ?_; repeat' first | (with_reducible assumption) | (with_reducible exact Below.refl _ _) | (with_reducible refine bnew ?_ _) | (with_reducible refine Below.drew ?_))
    refine wpAnyH_take (i := 0) (oi := _) (v := ?_) rfl (by kernel_rfl) (by kernel_rfl) (by kernel_rfl) (fun _ _ _ h => h) (Or.inl ⟨by rfl, ?_⟩) (by assumption) ?_
    rotate_left
    · intro w hSw
      (try dsimp only at hSw)
      go_simp
      try (with_reducible rfl)
    try simp only [Act.put, List.setIfInBounds_toArray]
    refine wpAnyH_take (i := 3) (oi := _) (v := ?_) rfl (by kernel_rfl) (by kernel_rfl) (by kernel_rfl) (fun _ _ _ h => h) (Or.inl ⟨by rfl, ?_⟩) (by assumption) ?_
    rotate_left
    · intro w hSw
      (try dsimp only at hSw)
      go_simp
      try (with_reducible rfl)
    try simp only [Act.put]
    refine wpAnyH_ready (rs := [1]) (by kernel_rfl) (by simp) ?_
    refine AllReadyH.cons (o := _) rfl (fun K hK => ?_) AllReadyH.nil
    go_simp
    (with_reducible refine (CC.out _).mono ?_)
    rintro e w5 ⟨rfl, hb⟩
    have hbb := bcb2 hHeld hb
    clear hb
    go_wp2_with fail
    refine hK.out _ _ ?_ (fun hHeld => ?_)
    · (try dsimp only)
      (refine mkb2 HH241 ?_; repeat' first | (with_reducible assumption) | (with_reducible exact Below.refl _ _) | (with_reducible refine bnew ?_ _) | (with_reducible refine Below.drew ?_))
    clear hK K
    try simp only [Act.put, List.setIfInBounds_toArray, List.set_cons_succ]
    refine wpAnyH_take (i := 2) (oi := _) (v := ?_) rfl (by kernel_rfl) (by kernel_rfl) (by kernel_rfl) (fun _ _ _ h => h) (Or.inl ⟨by rfl, ?_⟩) (by assumption) ?_
    rotate_left
    · intro w hSw
      (try dsimp only at hSw)
      go_simp
      try (with_reducible rfl)
    try simp only [Act.put, List.setIfInBounds_toArray]
    refine wpAnyH_ready (rs := [4]) (by kernel_rfl) (by simp) ?_
    refine AllReadyH.cons (o := _) rfl (fun K hK => ?_) AllReadyH.nil
    go_simp
    (with_reducible refine (Ia.out _).mono ?_)
    rintro e w5 ⟨rfl, hb⟩
    have hbb := bcb2 hHeld hb
    clear hb
    go_wp2_with fail
    refine hK.out _ _ ?_ (fun hHeld => ?_)
    · (try dsimp only)
      (refine mkb2 HH241 ?_; repeat' first | (with_reducible assumption) | (with_reducible exact Below.refl _ _) | (with_reducible refine bnew ?_ _) | (with_reducible refine Below.drew ?_))
    clear hK K
    try simp only [Act.put, List.setIfInBounds_toArray, List.set_cons_succ]
    refine wpAnyH_take (i := 5) (oi := _) (v := ?_) rfl (by kernel_rfl) (by kernel_rfl) (by kernel_rfl) (fun _ _ _ h => h) (Or.inl ⟨by rfl, ?_⟩) (by assumption) ?_
    rotate_left
    · intro w hSw
      (try dsimp only at hSw)
      go_simp
      try (with_reducible rfl)
    try simp only [Act.put, List.setIfInBounds_toArray]
    refine wpAnyH_take (i := 6) (oi := _) (v := ?_) rfl (by kernel_rfl) (by kernel_rfl) (by kernel_rfl) (fun _ _ _ h => h) (Or.inl ⟨by rfl, ?_⟩) (by assumption) ?_
    rotate_left
    · intro w hSw
      (try dsimp only at hSw)
      go_simp
      try (with_reducible rfl)
    try simp only [Act.put]
    refine wpAnyH_take (i := 7) (oi := _) (v := ?_) rfl (by kernel_rfl) (by kernel_rfl) (by kernel_rfl) (fun _ _ _ h => h) (Or.inl ⟨by rfl, ?_⟩) (by assumption) ?_
    rotate_left
    · intro w hSw
      (try dsimp only at hSw)
      go_simp
      try (with_reducible rfl)
    try simp only [Act.put]
    refine wpAnyH_ready (rs := [8]) (by kernel_rfl) (by simp) ?_
    refine AllReadyH.cons (o := _) rfl (fun K hK => ?_) AllReadyH.nil
    go_simp
    (with_reducible refine (CC.out _).mono ?_)
    rintro e w5 ⟨rfl, hb⟩
    have hbb := bcb2 hHeld hb
    clear hb
    go_wp2_with fail
    refine hK.out _ _ ?_ (fun hHeld => ?_)
    · (try dsimp only)
      (refine mkb2 HH241 ?_; repeat' first | (with_reducible assumption) | (with_reducible exact Below.refl _ _) | (with_reducible refine bnew ?_ _) | (with_reducible refine Below.drew ?_))
    clear hK K
    try simp only [Act.put, List.setIfInBounds_toArray, List.set_cons_succ]
    refine wpAnyH_take (i := 9) (oi := _) (v := ?_) rfl (by kernel_rfl) (by kernel_rfl) (by kernel_rfl) (fun _ _ _ h => h) (Or.inl ⟨by rfl, ?_⟩) (by assumption) ?_
    rotate_left
    · intro w hSw
      (try dsimp only at hSw)
      go_simp
      try (with_reducible rfl)
    try simp only [Act.put, List.setIfInBounds_toArray]
    refine wpAnyH_take (i := 10) (oi := _) (v := ?_) rfl (by kernel_rfl) (by kernel_rfl) (by kernel_rfl) (fun _ _ _ h => h) (Or.inl ⟨by rfl, ?_⟩) (by assumption) ?_
    rotate_left
    · intro w hSw
      (try dsimp only at hSw)
      go_simp
      try (with_reducible rfl)
    try simp only [Act.put]
    refine wpAnyH_ready (rs := [11]) (by kernel_rfl) (by simp) ?_
    refine AllReadyH.cons (o := _) rfl (fun K hK => ?_) AllReadyH.nil
    go_simp
    refine hK.out _ _ ?_ (fun hHeld => ?_)
    · (try dsimp only)
      (refine mkb2 HH241 ?_; repeat' first | (with_reducible assumption) | (with_reducible exact Below.refl _ _) | (with_reducible refine bnew ?_ _) | (with_reducible refine Below.drew ?_))
    clear hK K
    try simp only [Act.put, List.setIfInBounds_toArray, List.set_cons_succ]
    refine wpAnyH_ready (rs := [12]) (by kernel_rfl) (by simp) ?_
    refine AllReadyH.cons (o := _) rfl (fun K hK => ?_) AllReadyH.nil
    go_simp
    refine hK.out _ _ ?_ (fun hHeld => ?_)
    · (try dsimp only)
      (refine mkb2 HH241 ?_; repeat' first | (with_reducible assumption) | (with_reducible exact Below.refl _ _) | (with_reducible refine bnew ?_ _) | (with_reducible refine Below.drew ?_))
    clear hK K
    try simp only [Act.put, List.setIfInBounds_toArray, List.set_cons_succ]
    refine wpAnyH_ready (rs := [13]) (by kernel_rfl) (by simp) ?_
    refine AllReadyH.cons (o := _) rfl (fun K hK => ?_) AllReadyH.nil
    go_simp
    refine hK.out _ _ ?_ (fun hHeld => ?_)
    · (try dsimp only)
      (refine mkb2 HH241 ?_; repeat' first | (with_reducible assumption) | (with_reducible exact Below.refl _ _) | (with_reducible refine bnew ?_ _) | (with_reducible refine Below.drew ?_))
    clear hK K
    try simp only [Act.put, List.setIfInBounds_toArray, List.set_cons_succ]
    refine wpAnyH_take (i := 14) (oi := _) (v := ?_) rfl (by kernel_rfl) (by kernel_rfl) (by kernel_rfl) (fun _ _ _ h => h) (Or.inl ⟨by rfl, ?_⟩) (by assumption) ?_
    rotate_left
    · intro w hSw
      (try dsimp only at hSw)
      go_simp
      try (with_reducible rfl)
    try simp only [Act.put, List.setIfInBounds_toArray]
    refine wpAnyH_take (i := 15) (oi := _) (v := ?_) rfl (by kernel_rfl) (by kernel_rfl) (by kernel_rfl) (fun _ _ _ h => h) (Or.inl ⟨by rfl, ?_⟩) (by assumption) ?_
    rotate_left
    · intro w hSw
      (try dsimp only at hSw)
      go_simp
      try (with_reducible rfl)
    try simp only [Act.put]
    refine wpAnyH_take (i := 16) (oi := _) (v := ?_) rfl (by kernel_rfl) (by kernel_rfl) (by kernel_rfl) (fun _ _ _ h => h) (Or.inl ⟨by rfl, ?_⟩) (by assumption) ?_
    rotate_left
    · intro w hSw
      (try dsimp only at hSw)
      go_simp
      try (with_reducible rfl)
    try simp only [Act.put]
    refine wpAnyH_take (i := 17) (oi := _) (v := ?_) rfl (by kernel_rfl) (by kernel_rfl) (by kernel_rfl) (fun _ _ _ h => h) (Or.inl ⟨by rfl, ?_⟩) (by assumption) ?_
    rotate_left
    · intro w hSw
      (try dsimp only at hSw)
      go_simp
      try (with_reducible rfl)
    try simp only [Act.put]
    refine wpAnyH_take (i := 18) (oi := _) (v := ?_) rfl (by kernel_rfl) (by kernel_rfl) (by kernel_rfl) (fun _ _ _ h => h) (Or.inl ⟨by rfl, ?_⟩) (by assumption) ?_
    rotate_left
    · intro w hSw
      (try dsimp only at hSw)
      go_simp
      try (with_reducible rfl)
    try simp only [Act.put]
    refine wpAnyH_take (i := 20) (oi := _) (v := ?_) rfl (by kernel_rfl) (by kernel_rfl) (by kernel_rfl) (fun _ _ _ h => h) (Or.inl ⟨by rfl, ?_⟩) (by assumption) ?_
    rotate_left
    · intro w hSw
      (try dsimp only at hSw)
      go_simp
      try (with_reducible rfl)
    try simp only [Act.put]
    refine wpAnyH_take (i := 21) (oi := _) (v := ?_) rfl (by kernel_rfl) (by kernel_rfl) (by kernel_rfl) (fun _ _ _ h => h) (Or.inl ⟨by rfl, ?_⟩) (by assumption) ?_
    rotate_left
    · intro w hSw
      (try dsimp only at hSw)
      go_simp
      try (with_reducible rfl)
    try simp only [Act.put]
    refine wpAnyH_ready (rs := [19]) (by kernel_rfl) (by simp) ?_
    refine AllReadyH.cons (o := _) rfl (fun K hK => ?_) AllReadyH.nil
    go_simp
    (with_reducible refine (M1.out _).mono ?_)
    rintro e w5 ⟨rfl, hb⟩
    have hbb := bcb2 hHeld hb
    clear hb
    go_wp2_with fail
    refine hK.out _ _ ?_ (fun hHeld => ?_)
    · (try dsimp only)
      (refine mkb2 HH241 ?_; repeat' first | (with_reducible assumption) | (with_reducible exact Below.refl _ _) | (with_reducible refine bnew ?_ _) | (with_reducible refine Below.drew ?_))
    clear hK K
    try simp only [Act.put, List.setIfInBounds_toArray, List.set_cons_succ]
    refine wpAnyH_ready (rs := [22]) (by kernel_rfl) (by simp) ?_
    refine AllReadyH.cons (o := _) rfl (fun K hK => ?_) AllReadyH.nil
    go_simp
    (with_reducible refine (M2.out _).mono ?_)
    rintro e w5 ⟨rfl, hb⟩
    have hbb := bcb2 hHeld hb
    clear hb
    go_wp2_with fail
    refine hK.out _ _ ?_ (fun hHeld => ?_)
    · (try dsimp only)
      (refine mkb2 HH241 ?_; repeat' first | (with_reducible assumption) | (with_reducible exact Below.refl _ _) | (with_reducible refine bnew ?_ _) | (with_reducible refine Below.drew ?_))
    clear hK K
    try simp only [Act.put, List.setIfInBounds_toArray, List.set_cons_succ]
    refine wpAnyH_take (i := 23) (oi := _) (v := ?_) rfl (by kernel_rfl) (by kernel_rfl) (by kernel_rfl) (fun _ _ _ h => h) (Or.inl ⟨by rfl, ?_⟩) (by assumption) ?_
    rotate_left
    · intro w hSw
      (try dsimp only at hSw)
      go_simp
      try (with_reducible rfl)
    try simp only [Act.put, List.setIfInBounds_toArray]
    refine wpAnyH_take (i := 24) (oi := _) (v := ?_) rfl (by kernel_rfl) (by kernel_rfl) (by kernel_rfl) (fun _ _ _ h => h) (Or.inl ⟨by rfl, ?_⟩) (by assumption) ?_
    rotate_left
    · intro w hSw
      (try dsimp only at hSw)
      go_simp
      try (with_reducible rfl)
    try simp only [Act.put]
    refine wpAnyH_done (by kernel_rfl) ?_ _
    have hbb := bcb2 hHeld (Below.refl _ _)
    clear hHeld
    have H242 := Lib.hid (Q236.out.below hbb)
    have H243 := Lib.hid (Q237.out.below hbb)
    have H244 := Lib.hid (Q238.out.below hbb)
    have H245 := Lib.hid (Q239.out.below hbb)
    have B246 := bcall Z240 hbb
    clear hbb Z240
    obtain ⟨q247, q248, q249⟩ := H242.out
    obtain ⟨q250, q251, q252⟩ := H243.out
    obtain ⟨q253, q254, q255⟩ := H244.out
    obtain ⟨q256, q257, q258⟩ := H245.out
    go_wp2_with fail
    (with_reducible refine (Ia.out _).mono ?_)
    rintro e W259 ⟨rfl, hb⟩
    have H260 := Lib.hid ((H242.out).below hb)
    have H261 := Lib.hid ((H243.out).below hb)
    have H262 := Lib.hid ((H244.out).below hb)
    have H263 := Lib.hid ((H245.out).below hb)
    have B264 := bcall B246 hb
    clear hb B246 H242 H243 H244 H245 q247 q248 q249 q250 q251 q252 q253 q254 q255 q256 q257 q258
    obtain ⟨q265, q266, q267⟩ := H260.out
    have l268 := H260.out.lt
    obtain ⟨q269, q270, q271⟩ := H261.out
    have l272 := H261.out.lt
    obtain ⟨q273, q274, q275⟩ := H262.out
    have l276 := H262.out.lt
    obtain ⟨q277, q278, q279⟩ := H263.out
    have l280 := H263.out.lt
    go_wp2_with fail
    (with_reducible refine (Ib.out _).mono ?_)
    rintro e W281 ⟨rfl, hb⟩
    have H282 := Lib.hid ((H260.out).below hb)
    have H283 := Lib.hid ((H261.out).below hb)
    have H284 := Lib.hid ((H262.out).below hb)
    have H285 := Lib.hid ((H263.out).below hb)
    have B286 := bcall B264 hb
    clear hb B264 H260 H261 H262 H263 q265 q266 q267 l268 q269 q270 q271 l272 q273 q274 q275 l276 q277 q278 q279 l280
    obtain ⟨q287, q288, q289⟩ := H282.out
    have l290 := H282.out.lt
    obtain ⟨q291, q292, q293⟩ := H283.out
    have l294 := H283.out.lt
    obtain ⟨q295, q296, q297⟩ := H284.out
    have l298 := H284.out.lt
    obtain ⟨q299, q300, q301⟩ := H285.out
    have l302 := H285.out.lt
    go_wp2_with fail
    obtain ⟨w4, rfl⟩ : ∃ w4 : World, w4 = W281 := ⟨_, rfl⟩
    have HH303 := Lib.hid (⟨H282.out, H283.out, H284.out, H285.out⟩ : _ ∧ _ ∧ _ ∧ _)
    first | (go_region_held3 (fun w' => w'.cell? ⟨w.heap.size, 0, none⟩ = some (.int .i64 a.1) ∧ w'.cell? ⟨w.heap.size, 1, none⟩ = some (.int .i64 a.2.1) ∧ w'.cell? ⟨w.heap.size, 2, none⟩ = some (.int .i64 a.2.2) ∧ w'.cell? ⟨(w.heap.size + 1), 0, none⟩ = some (.int .i64 b.1) ∧ w'.cell? ⟨(w.heap.size + 1), 1, none⟩ = some (.int .i64 b.2.1) ∧ w'.cell? ⟨(w.heap.size + 1), 2, none⟩ = some (.int .i64 b.2.2) ∧ w'.cell? ⟨(W207.heap.size), 0, none⟩ = some (.int .i64 x.1) ∧ w'.cell? ⟨(W207.heap.size), 1, none⟩ = some (.int .i64 x.2.1) ∧ w'.cell? ⟨(W207.heap.size), 2, none⟩ = some (.int .i64 x.2.2) ∧ w'.cell? ⟨(W219.heap.size), 0, none⟩ = some (.int .i64 y.1) ∧ w'.cell? ⟨(W219.heap.size), 1, none⟩ = some (.int .i64 y.2.1) ∧ w'.cell? ⟨(W219.heap.size), 2, none⟩ = some (.int .i64 y.2.2) ∧ Below w4.heap.size w4 w')
      ((refine mkb4 HH303 ?_; repeat' first | (with_reducible assumption) | (with_reducible exact Below.refl _ _) | (with_reducible refine bnew ?_ _) | (with_reducible refine Below.drew ?_)))
      ((first | (go_at_call 20; (with_reducible refine (R1.out _).mono ?_); rintro e w' ⟨rfl, hb⟩; have hbb := bcb4 (by assumption) hb; clear hb) | (go_at_call 19; (with_reducible refine (L1.out _).mono ?_); rintro e w' ⟨rfl, hb⟩; have hbb := bcb4 (by assumption) hb; clear hb) | (go_at_call 21; (with_reducible refine (R2.out _).mono ?_); rintro e w' ⟨rfl, hb⟩; have hbb := bcb4 (by assumption) hb; clear hb) | (go_at_call 19; (with_reducible refine (L2.out _).mono ?_); rintro e w' ⟨rfl, hb⟩; have hbb := bcb4 (by assumption) hb; clear hb)))) | fail
    all_goals
      rename_i hHl
      have hbb := bcb4 hHl (Below.refl _ _)
      clear hHl
      go_wp2_with fail
      go_ret
      exact ⟨rfl, bcall B286 hbb⟩
end Go.Proofs.Ytejjalehbdghaaa
