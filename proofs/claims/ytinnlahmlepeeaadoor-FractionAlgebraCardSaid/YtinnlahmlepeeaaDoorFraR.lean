/- Contracts: the simplest fraction. -/
import Derived.Test.YtinnlahmlepeeaaDoorFraQ
namespace Go.Proofs.YtinnlahmlepeeaaDoor
open Go.RowKit
def simR (a b : F2) : F2 × Int := if validF a && (validF b && decide (cmpR a b ≤ 0)) then
    (if b.1 < 0 then ((-(unfR (-b.1, b.2) (-a.1, a.2)).1, (unfR (-b.1, b.2) (-a.1, a.2)).2), 0) else if a.1 ≤ 0 then ((0, 1), 0) else (unfR a b, 0)) else ((0, 0), 1)
theorem sgnI_le {z : Int} : sgnI z ≤ 0 ↔ z ≤ 0 := by
  unfold sgnI
  by_cases h : z < 0
  · rw [if_pos h]; omega
  · rw [if_neg h]
    by_cases h0 : z = 0
    · rw [if_pos h0]; omega
    · rw [if_neg h0]; omega
theorem cmpR_le {a b : F2} (ha : validF a = true) (hb : validF b = true) : cmpR a b ≤ 0 ↔ a.1 * b.2 ≤ b.1 * a.2 := by
  have e : cmpR a b = sgnI (a.1 * b.2 + -b.1 * a.2) := by unfold cmpR; rw [ha, hb]; rfl
  rw [e, sgnI_le, Int.neg_mul]
  omega
theorem rng_pos {a b : F2} (ha : validF a = true) (hb : validF b = true) (h : cmpR a b ≤ 0) (h0 : 0 < a.1) : Rng a b := by
  rw [cmpR_le ha hb] at h
  obtain ⟨a1, a2, a3, a4, a5⟩ := (validF_iff a).1 ha
  obtain ⟨b1, b2, b3, b4, b5⟩ := (validF_iff b).1 hb
  refine ⟨h0, by omega, ?_, by omega, a5, b5, h⟩
  have m : 0 < a.1 * b.2 := Int.mul_pos h0 (by omega)
  rcases Int.lt_or_le 0 b.1 with h1 | h1
  · exact h1
  · have := Int.mul_nonpos_of_nonpos_of_nonneg h1 (show 0 ≤ a.2 by omega); omega
theorem rng_neg {a b : F2} (ha : validF a = true) (hb : validF b = true) (h : cmpR a b ≤ 0) (h0 : b.1 < 0) : Rng (-b.1, b.2) (-a.1, a.2) := by
  rw [cmpR_le ha hb] at h
  obtain ⟨a1, a2, a3, a4, a5⟩ := (validF_iff a).1 ha
  obtain ⟨b1, b2, b3, b4, b5⟩ := (validF_iff b).1 hb
  refine ⟨by show 0 < -b.1; omega, by show 0 < b.2; omega, ?_, by show 0 < a.2; omega, ?_, ?_, ?_⟩
  · show 0 < -a.1
    rcases Int.lt_or_le a.1 0 with h1 | h1
    · omega
    · have := Int.mul_nonneg h1 (show 0 ≤ b.2 by omega)
      have m : 0 < -b.1 * a.2 := Int.mul_pos (by omega) (by omega)
      rw [Int.neg_mul] at m
      omega
  · show Nat.gcd (-b.1).natAbs b.2.natAbs = 1; rw [Int.natAbs_neg]; exact b5
  · show Nat.gcd (-a.1).natAbs a.2.natAbs = 1; rw [Int.natAbs_neg]; exact a5
  · show -b.1 * a.2 ≤ -a.1 * b.2; rw [Int.neg_mul, Int.neg_mul]; omega
set_option maxHeartbeats 4000000 in
theorem sim_any (a b : F2) (ha : In64 a.1 ∧ In64 a.2) (hb : In64 b.1 ∧ In64 b.2) (w : World) : Calls Tryd.prog 33 #[.agg #[.int .i64 a.1, .int .i64 a.2], .agg #[.int .i64 b.1, .int .i64 b.2]] w fun e w' => e = .returned (.tuple #[.agg #[.int .i64 (simR a b).1.1, .int .i64 (simR a b).1.2], .int .i64 (simR a b).2]) ∧ Below w.heap.size w w' := by
  have VA : Hid (∀ w, Calls Tryd.prog 14 #[.agg #[.int .i64 a.1, .int .i64 a.2]] w fun e w' => e = .returned (.bool (validF a)) ∧ Below w.heap.size w w') := Lib.hid fun w => valid_any a ha.1 ha.2 w
  have VB : Hid (∀ w, Calls Tryd.prog 14 #[.agg #[.int .i64 b.1, .int .i64 b.2]] w fun e w' => e = .returned (.bool (validF b)) ∧ Below w.heap.size w w') := Lib.hid fun w => valid_any b hb.1 hb.2 w
  have VC : Hid (∀ w, Calls Tryd.prog 27 #[.agg #[.int .i64 a.1, .int .i64 a.2], .agg #[.int .i64 b.1, .int .i64 b.2]] w fun e w' => e = .returned (.int .i64 (cmpR a b)) ∧ Below w.heap.size w w') := Lib.hid fun w => cmp_any a b ha hb w
  rcases h1 : validF a with _ | _
  · rw [show simR a b = ((0, 0), 1) by unfold simR; rw [h1]; rfl]
    rw [h1] at VA
    clear VB VC h1 ha hb
    obtain ⟨a1, a2⟩ := a
    obtain ⟨b1, b2⟩ := b
    dsimp only at *
    go_enter Tryd.func33, Tryd.ntmps33
    go_wp2_with fail
    (with_reducible refine (VA.out _).mono ?_)
    rintro e w1 ⟨rfl, hb⟩
    have H2 := Lib.hid ((((OwnC.new w #[.int .i64 a1, .int .i64 a2] 23).old (.cells #[.int .i64 b1, .int .i64 b2] 23)).old (.cells #[.int .i64 0, .int .i64 0] 23)).below hb)
    have H3 := Lib.hid (((OwnC.new2 w (.cells #[.int .i64 a1, .int .i64 a2] 23) #[.int .i64 b1, .int .i64 b2] 23).old (.cells #[.int .i64 0, .int .i64 0] 23)).below hb)
    have H4 := Lib.hid ((OwnC.new3 w (.cells #[.int .i64 a1, .int .i64 a2] 23) (.cells #[.int .i64 b1, .int .i64 b2] 23) #[.int .i64 0, .int .i64 0] 23).below hb)
    have hb5 := bcall (bnew (bnew (bnew (Below.refl _ w) (.cells #[.int .i64 a1, .int .i64 a2] 23)) (.cells #[.int .i64 b1, .int .i64 b2] 23)) (.cells #[.int .i64 0, .int .i64 0] 23)) hb
    clear hb
    obtain ⟨⟨c6, c7⟩, ⟨c8, c9⟩, c10⟩ := H4.out.two
    go_wp2_with fail
    refine bodyPost_ret (v := .tuple #[.agg #[.int .i64 0, .int .i64 0], .int .i64 1]) ?_ rfl ⟨rfl, ?_⟩
    · simp [results, Tryd.results33, go_sem, *]
    · have hBB := hb5
      clear c6 c7 c8 c9 c10
      repeat' first | (with_reducible assumption) | (with_reducible exact Nat.le_refl _) | (with_reducible refine setB ?_ ?_) | (with_reducible refine Below.drew ?_) | (with_reducible refine bnew ?_ _) | omega
  · rcases h2 : validF b with _ | _
    · rw [show simR a b = ((0, 0), 1) by unfold simR; rw [h1, h2]; rfl]
      rw [h1] at VA
      rw [h2] at VB
      clear VC h1 h2 ha hb
      obtain ⟨a1, a2⟩ := a
      obtain ⟨b1, b2⟩ := b
      dsimp only at *
      go_enter Tryd.func33, Tryd.ntmps33
      go_wp2_with fail
      (with_reducible refine (VA.out _).mono ?_)
      rintro e w11 ⟨rfl, hb⟩
      have H12 := Lib.hid ((((OwnC.new w #[.int .i64 a1, .int .i64 a2] 23).old (.cells #[.int .i64 b1, .int .i64 b2] 23)).old (.cells #[.int .i64 0, .int .i64 0] 23)).below hb)
      have H13 := Lib.hid (((OwnC.new2 w (.cells #[.int .i64 a1, .int .i64 a2] 23) #[.int .i64 b1, .int .i64 b2] 23).old (.cells #[.int .i64 0, .int .i64 0] 23)).below hb)
      have H14 := Lib.hid ((OwnC.new3 w (.cells #[.int .i64 a1, .int .i64 a2] 23) (.cells #[.int .i64 b1, .int .i64 b2] 23) #[.int .i64 0, .int .i64 0] 23).below hb)
      have hb15 := bcall (bnew (bnew (bnew (Below.refl _ w) (.cells #[.int .i64 a1, .int .i64 a2] 23)) (.cells #[.int .i64 b1, .int .i64 b2] 23)) (.cells #[.int .i64 0, .int .i64 0] 23)) hb
      clear hb
      obtain ⟨⟨c16, c17⟩, ⟨c18, c19⟩, c20⟩ := H13.out.two
      go_wp2_with fail
      (with_reducible refine (VB.out _).mono ?_)
      rintro e w21 ⟨rfl, hb⟩
      have H22 := Lib.hid ((H12.out).below hb)
      have H23 := Lib.hid ((H13.out).below hb)
      have H24 := Lib.hid ((H14.out).below hb)
      have hb25 := bcall hb15 hb
      clear hb hb15 H12 H13 H14 c16 c17 c18 c19 c20
      obtain ⟨⟨c26, c27⟩, ⟨c28, c29⟩, c30⟩ := H24.out.two
      go_wp2_with fail
      refine bodyPost_ret (v := .tuple #[.agg #[.int .i64 0, .int .i64 0], .int .i64 1]) ?_ rfl ⟨rfl, ?_⟩
      · simp [results, Tryd.results33, go_sem, *]
      · have hBB := hb25
        clear c26 c27 c28 c29 c30
        repeat' first | (with_reducible assumption) | (with_reducible exact Nat.le_refl _) | (with_reducible refine setB ?_ ?_) | (with_reducible refine Below.drew ?_) | (with_reducible refine bnew ?_ _) | omega
    · by_cases h3 : cmpR a b ≤ 0
      · have hs : simR a b = (if b.1 < 0 then ((-(unfR (-b.1, b.2) (-a.1, a.2)).1, (unfR (-b.1, b.2) (-a.1, a.2)).2), 0) else if a.1 ≤ 0 then ((0, 1), 0) else (unfR a b, 0)) := by unfold simR; rw [h1, h2, show decide (cmpR a b ≤ 0) = true by simpa using h3]; rfl
        rw [hs]
        clear hs
        have dc : decide (0 < cmpR a b) = false := by simp; omega
        rw [h1] at VA
        rw [h2] at VB
        obtain ⟨a3, a4, a5, a6, a7⟩ := (validF_iff a).1 h1
        obtain ⟨b3, b4, b5, b6, b7⟩ := (validF_iff b).1 h2
        by_cases h4 : b.1 < 0
        · rw [if_pos h4]
          have d4 : decide (b.1 < 0) = true := by simpa using h4
          have hr := rng_neg h1 h2 h3 h4
          have hl := unfN_le _ _ _ hr (Nat.le_refl _)
          have N1 : Hid (∀ w, Calls Tryd.prog 52 #[.agg #[.int .i64 b.1, .int .i64 b.2]] w fun e w' => e = .returned (.agg #[.int .i64 (-b.1), .int .i64 b.2]) ∧ Below w.heap.size w w') := Lib.hid fun w => negated_any b (by omega) (by omega) w
          have N2 : Hid (∀ w, Calls Tryd.prog 52 #[.agg #[.int .i64 a.1, .int .i64 a.2]] w fun e w' => e = .returned (.agg #[.int .i64 (-a.1), .int .i64 a.2]) ∧ Below w.heap.size w w') := Lib.hid fun w => negated_any a (by omega) (by omega) w
          have CU : Hid (∀ w, Calls Tryd.prog 59 #[.agg #[.int .i64 (-b.1), .int .i64 b.2], .agg #[.int .i64 (-a.1), .int .i64 a.2]] w fun e w' => e = .returned (.agg #[.int .i64 (unfR (-b.1, b.2) (-a.1, a.2)).1, .int .i64 (unfR (-b.1, b.2) (-a.1, a.2)).2]) ∧ Below w.heap.size w w') := Lib.hid fun w => unfold_any (-b.1, b.2) (-a.1, a.2) hr ⟨by show In64 (-b.1); unfold In64; omega, hb.2⟩ ⟨by show In64 (-a.1); unfold In64; omega, ha.2⟩ w
          have N3 : Hid (∀ w, Calls Tryd.prog 52 #[.agg #[.int .i64 (unfR (-b.1, b.2) (-a.1, a.2)).1, .int .i64 (unfR (-b.1, b.2) (-a.1, a.2)).2]] w fun e w' => e = .returned (.agg #[.int .i64 (-(unfR (-b.1, b.2) (-a.1, a.2)).1), .int .i64 (unfR (-b.1, b.2) (-a.1, a.2)).2]) ∧ Below w.heap.size w w') := Lib.hid fun w => negated_any (unfR (-b.1, b.2) (-a.1, a.2)) (by unfold unfR; have := hl.1.1; dsimp only at this ⊢; omega) (by unfold unfR; have := hl.2.1.1; dsimp only at this ⊢; omega) w
          generalize unfR (-b.1, b.2) (-a.1, a.2) = u at *
          generalize cmpR a b = cc at *
          clear hl hr h3 h4 h1 h2 ha hb a3 a4 a5 a6 a7 b3 b4 b5 b6 b7
          obtain ⟨a1, a2⟩ := a
          obtain ⟨b1, b2⟩ := b
          dsimp only at *
          obtain ⟨u1, u2⟩ := u
          dsimp only at *
          go_enter Tryd.func33, Tryd.ntmps33
          go_wp2_with fail
          (with_reducible refine (VA.out _).mono ?_)
          rintro e w66 ⟨rfl, hb⟩
          have H67 := Lib.hid ((((OwnC.new w #[.int .i64 a1, .int .i64 a2] 23).old (.cells #[.int .i64 b1, .int .i64 b2] 23)).old (.cells #[.int .i64 0, .int .i64 0] 23)).below hb)
          have H68 := Lib.hid (((OwnC.new2 w (.cells #[.int .i64 a1, .int .i64 a2] 23) #[.int .i64 b1, .int .i64 b2] 23).old (.cells #[.int .i64 0, .int .i64 0] 23)).below hb)
          have H69 := Lib.hid ((OwnC.new3 w (.cells #[.int .i64 a1, .int .i64 a2] 23) (.cells #[.int .i64 b1, .int .i64 b2] 23) #[.int .i64 0, .int .i64 0] 23).below hb)
          have hb70 := bcall (bnew (bnew (bnew (Below.refl _ w) (.cells #[.int .i64 a1, .int .i64 a2] 23)) (.cells #[.int .i64 b1, .int .i64 b2] 23)) (.cells #[.int .i64 0, .int .i64 0] 23)) hb
          clear hb
          obtain ⟨⟨c71, c72⟩, ⟨c73, c74⟩, c75⟩ := H68.out.two
          go_wp2_with fail
          (with_reducible refine (VB.out _).mono ?_)
          rintro e w76 ⟨rfl, hb⟩
          have H77 := Lib.hid ((H67.out).below hb)
          have H78 := Lib.hid ((H68.out).below hb)
          have H79 := Lib.hid ((H69.out).below hb)
          have hb80 := bcall hb70 hb
          clear hb hb70 H67 H68 H69 c71 c72 c73 c74 c75
          obtain ⟨⟨c81, c82⟩, ⟨c83, c84⟩, c85⟩ := H77.out.two
          obtain ⟨⟨c86, c87⟩, ⟨c88, c89⟩, c90⟩ := H78.out.two
          go_wp2_with fail
          (with_reducible refine (VC.out _).mono ?_)
          rintro e w91 ⟨rfl, hb⟩
          have H92 := Lib.hid ((H77.out).below hb)
          have H93 := Lib.hid ((H78.out).below hb)
          have H94 := Lib.hid ((H79.out).below hb)
          have hb95 := bcall hb80 hb
          clear hb hb80 H77 H78 H79 c81 c82 c83 c84 c85 c86 c87 c88 c89 c90
          obtain ⟨⟨c96, c97⟩, ⟨c98, c99⟩, c100⟩ := H93.out.two
          go_upto_region 4 with fail
          have xA : w.heap.size ≠ w.heap.size + 1 + 1 := by omega
          have xB : w.heap.size + 1 ≠ w.heap.size + 1 + 1 := by omega
          have YA := H92
          have YB := H93
          go_region_held3 (fun w' => w'.cell? ⟨w.heap.size, 0, none⟩ = some (.int .i64 a1) ∧ w'.cell? ⟨w.heap.size, 1, none⟩ = some (.int .i64 a2) ∧ w'.cell? ⟨w.heap.size + 1, 0, none⟩ = some (.int .i64 b1) ∧ w'.cell? ⟨w.heap.size + 1, 1, none⟩ = some (.int .i64 b2) ∧ Bx (w.heap.size + 1 + 1) w91 w')
            ((refine mkX YA YB xA xB ?_; repeat' first | (with_reducible assumption) | (with_reducible exact Bx.refl _ _) | (with_reducible refine Bx.drew ?_) | (with_reducible refine Bx.set ?_)))
            ((first | (go_at_call 52; (with_reducible refine (N1.out _).mono ?_); rintro e w' ⟨rfl, hb⟩; have hx := Bx.call (getX (by assumption)) hb; (first | (have H92 := Lib.hid (H92.out.below hb)) | (have H92 := Lib.hid ((OwnC.drew H92.out).below hb))); (first | (have H93 := Lib.hid (H93.out.below hb)) | (have H93 := Lib.hid ((OwnC.drew H93.out).below hb))); (first | (have H94 := Lib.hid (H94.out.below hb)) | (have H94 := Lib.hid ((OwnC.drew H94.out).below hb))); (first | (have hb95 := bcall hb95 hb) | (have hb95 := bcall (Below.drew hb95) hb)); clear hb; obtain ⟨⟨z00, z01⟩, ⟨z02, z03⟩, z04⟩ := H94.out.two) | (go_at_call 52; (with_reducible refine (N2.out _).mono ?_); rintro e w' ⟨rfl, hb⟩; have hx := Bx.call (getX (by assumption)) hb; (first | (have H92 := Lib.hid (H92.out.below hb)) | (have H92 := Lib.hid ((OwnC.drew H92.out).below hb))); (first | (have H93 := Lib.hid (H93.out.below hb)) | (have H93 := Lib.hid ((OwnC.drew H93.out).below hb))); (first | (have H94 := Lib.hid (H94.out.below hb)) | (have H94 := Lib.hid ((OwnC.drew H94.out).below hb))); (first | (have hb95 := bcall hb95 hb) | (have hb95 := bcall (Below.drew hb95) hb)); clear hb; obtain ⟨⟨z00, z01⟩, ⟨z02, z03⟩, z04⟩ := H94.out.two) | (go_at_call 59; (with_reducible refine (CU.out _).mono ?_); rintro e w' ⟨rfl, hb⟩; have hx := Bx.call (getX (by assumption)) hb; (first | (have H92 := Lib.hid (H92.out.below hb)) | (have H92 := Lib.hid ((OwnC.drew H92.out).below hb))); (first | (have H93 := Lib.hid (H93.out.below hb)) | (have H93 := Lib.hid ((OwnC.drew H93.out).below hb))); (first | (have H94 := Lib.hid (H94.out.below hb)) | (have H94 := Lib.hid ((OwnC.drew H94.out).below hb))); (first | (have hb95 := bcall hb95 hb) | (have hb95 := bcall (Below.drew hb95) hb)); clear hb; obtain ⟨⟨z00, z01⟩, ⟨z02, z03⟩, z04⟩ := H94.out.two) | (go_at_call 52; (with_reducible refine (N3.out _).mono ?_); rintro e w' ⟨rfl, hb⟩; have hx := Bx.call (getX (by assumption)) hb; (first | (have H92 := Lib.hid (H92.out.below hb)) | (have H92 := Lib.hid ((OwnC.drew H92.out).below hb))); (first | (have H93 := Lib.hid (H93.out.below hb)) | (have H93 := Lib.hid ((OwnC.drew H93.out).below hb))); (first | (have H94 := Lib.hid (H94.out.below hb)) | (have H94 := Lib.hid ((OwnC.drew H94.out).below hb))); (first | (have hb95 := bcall hb95 hb) | (have hb95 := bcall (Below.drew hb95) hb)); clear hb; obtain ⟨⟨z00, z01⟩, ⟨z02, z03⟩, z04⟩ := H94.out.two)))
          all_goals go_wp2_with fail
          refine bodyPost_ret (v := .tuple #[.agg #[.int .i64 (-u1), .int .i64 u2], .int .i64 0]) ?_ rfl ⟨rfl, ?_⟩
          · simp [results, Tryd.results33, go_sem, *]
          · have hBB := hb95
            repeat' first | (with_reducible assumption) | (with_reducible exact Nat.le_refl _) | (with_reducible refine setB ?_ ?_) | (with_reducible refine Below.drew ?_) | (with_reducible refine bnew ?_ _) | omega
        · rw [if_neg h4]
          have d4 : decide (b.1 < 0) = false := by simpa using h4
          by_cases h5 : a.1 ≤ 0
          · rw [if_pos h5]
            have d5 : decide (a.1 ≤ 0) = true := by simpa using h5
            have CW : Hid (∀ w, Calls Tryd.prog 56 #[.int .i64 0] w fun e w' => e = .returned (.agg #[.int .i64 0, .int .i64 1]) ∧ Below w.heap.size w w') := Lib.hid fun w => whole_any 0 w
            generalize cmpR a b = cc at *
            clear h3 h4 h5 h1 h2 ha hb a3 a4 a5 a6 a7 b3 b4 b5 b6 b7
            obtain ⟨a1, a2⟩ := a
            obtain ⟨b1, b2⟩ := b
            dsimp only at *
            go_enter Tryd.func33, Tryd.ntmps33
            go_wp2_with fail
            (with_reducible refine (VA.out _).mono ?_)
            rintro e w101 ⟨rfl, hb⟩
            have H102 := Lib.hid ((((OwnC.new w #[.int .i64 a1, .int .i64 a2] 23).old (.cells #[.int .i64 b1, .int .i64 b2] 23)).old (.cells #[.int .i64 0, .int .i64 0] 23)).below hb)
            have H103 := Lib.hid (((OwnC.new2 w (.cells #[.int .i64 a1, .int .i64 a2] 23) #[.int .i64 b1, .int .i64 b2] 23).old (.cells #[.int .i64 0, .int .i64 0] 23)).below hb)
            have H104 := Lib.hid ((OwnC.new3 w (.cells #[.int .i64 a1, .int .i64 a2] 23) (.cells #[.int .i64 b1, .int .i64 b2] 23) #[.int .i64 0, .int .i64 0] 23).below hb)
            have hb105 := bcall (bnew (bnew (bnew (Below.refl _ w) (.cells #[.int .i64 a1, .int .i64 a2] 23)) (.cells #[.int .i64 b1, .int .i64 b2] 23)) (.cells #[.int .i64 0, .int .i64 0] 23)) hb
            clear hb
            obtain ⟨⟨c106, c107⟩, ⟨c108, c109⟩, c110⟩ := H103.out.two
            go_wp2_with fail
            (with_reducible refine (VB.out _).mono ?_)
            rintro e w111 ⟨rfl, hb⟩
            have H112 := Lib.hid ((H102.out).below hb)
            have H113 := Lib.hid ((H103.out).below hb)
            have H114 := Lib.hid ((H104.out).below hb)
            have hb115 := bcall hb105 hb
            clear hb hb105 H102 H103 H104 c106 c107 c108 c109 c110
            obtain ⟨⟨c116, c117⟩, ⟨c118, c119⟩, c120⟩ := H112.out.two
            obtain ⟨⟨c121, c122⟩, ⟨c123, c124⟩, c125⟩ := H113.out.two
            go_wp2_with fail
            (with_reducible refine (VC.out _).mono ?_)
            rintro e w126 ⟨rfl, hb⟩
            have H127 := Lib.hid ((H112.out).below hb)
            have H128 := Lib.hid ((H113.out).below hb)
            have H129 := Lib.hid ((H114.out).below hb)
            have hb130 := bcall hb115 hb
            clear hb hb115 H112 H113 H114 c116 c117 c118 c119 c120 c121 c122 c123 c124 c125
            obtain ⟨⟨c131, c132⟩, ⟨c133, c134⟩, c135⟩ := H127.out.two
            obtain ⟨⟨c136, c137⟩, ⟨c138, c139⟩, c140⟩ := H128.out.two
            go_wp2_with fail
            (with_reducible refine (CW.out _).mono ?_)
            rintro e w141 ⟨rfl, hb⟩
            have H142 := Lib.hid ((H127.out).below hb)
            have H143 := Lib.hid ((H128.out).below hb)
            have H144 := Lib.hid ((H129.out).below hb)
            have hb145 := bcall hb130 hb
            clear hb hb130 H127 H128 H129 c131 c132 c133 c134 c135 c136 c137 c138 c139 c140
            obtain ⟨⟨c146, c147⟩, ⟨c148, c149⟩, c150⟩ := H144.out.two
            go_wp2_with fail
            refine bodyPost_ret (v := .tuple #[.agg #[.int .i64 0, .int .i64 1], .int .i64 0]) ?_ rfl ⟨rfl, ?_⟩
            · simp [results, Tryd.results33, go_sem, *]
            · have hBB := hb145
              clear c146 c147 c148 c149 c150
              repeat' first | (with_reducible assumption) | (with_reducible exact Nat.le_refl _) | (with_reducible refine setB ?_ ?_) | (with_reducible refine Below.drew ?_) | (with_reducible refine bnew ?_ _) | omega
          · rw [if_neg h5]
            have d5 : decide (a.1 ≤ 0) = false := by simpa using h5
            have hr := rng_pos h1 h2 h3 (by omega)
            have CU : Hid (∀ w, Calls Tryd.prog 59 #[.agg #[.int .i64 a.1, .int .i64 a.2], .agg #[.int .i64 b.1, .int .i64 b.2]] w fun e w' => e = .returned (.agg #[.int .i64 (unfR a b).1, .int .i64 (unfR a b).2]) ∧ Below w.heap.size w w') := Lib.hid fun w => unfold_any a b hr ha hb w
            generalize unfR a b = u at *
            generalize cmpR a b = cc at *
            clear hr h3 h4 h5 h1 h2 ha hb a3 a4 a5 a6 a7 b3 b4 b5 b6 b7
            obtain ⟨a1, a2⟩ := a
            obtain ⟨b1, b2⟩ := b
            dsimp only at *
            obtain ⟨u1, u2⟩ := u
            dsimp only at *
            go_enter Tryd.func33, Tryd.ntmps33
            go_wp2_with fail
            (with_reducible refine (VA.out _).mono ?_)
            rintro e w151 ⟨rfl, hb⟩
            have H152 := Lib.hid ((((OwnC.new w #[.int .i64 a1, .int .i64 a2] 23).old (.cells #[.int .i64 b1, .int .i64 b2] 23)).old (.cells #[.int .i64 0, .int .i64 0] 23)).below hb)
            have H153 := Lib.hid (((OwnC.new2 w (.cells #[.int .i64 a1, .int .i64 a2] 23) #[.int .i64 b1, .int .i64 b2] 23).old (.cells #[.int .i64 0, .int .i64 0] 23)).below hb)
            have H154 := Lib.hid ((OwnC.new3 w (.cells #[.int .i64 a1, .int .i64 a2] 23) (.cells #[.int .i64 b1, .int .i64 b2] 23) #[.int .i64 0, .int .i64 0] 23).below hb)
            have hb155 := bcall (bnew (bnew (bnew (Below.refl _ w) (.cells #[.int .i64 a1, .int .i64 a2] 23)) (.cells #[.int .i64 b1, .int .i64 b2] 23)) (.cells #[.int .i64 0, .int .i64 0] 23)) hb
            clear hb
            obtain ⟨⟨c156, c157⟩, ⟨c158, c159⟩, c160⟩ := H153.out.two
            go_wp2_with fail
            (with_reducible refine (VB.out _).mono ?_)
            rintro e w161 ⟨rfl, hb⟩
            have H162 := Lib.hid ((H152.out).below hb)
            have H163 := Lib.hid ((H153.out).below hb)
            have H164 := Lib.hid ((H154.out).below hb)
            have hb165 := bcall hb155 hb
            clear hb hb155 H152 H153 H154 c156 c157 c158 c159 c160
            obtain ⟨⟨c166, c167⟩, ⟨c168, c169⟩, c170⟩ := H162.out.two
            obtain ⟨⟨c171, c172⟩, ⟨c173, c174⟩, c175⟩ := H163.out.two
            go_wp2_with fail
            (with_reducible refine (VC.out _).mono ?_)
            rintro e w176 ⟨rfl, hb⟩
            have H177 := Lib.hid ((H162.out).below hb)
            have H178 := Lib.hid ((H163.out).below hb)
            have H179 := Lib.hid ((H164.out).below hb)
            have hb180 := bcall hb165 hb
            clear hb hb165 H162 H163 H164 c166 c167 c168 c169 c170 c171 c172 c173 c174 c175
            obtain ⟨⟨c181, c182⟩, ⟨c183, c184⟩, c185⟩ := H177.out.two
            obtain ⟨⟨c186, c187⟩, ⟨c188, c189⟩, c190⟩ := H178.out.two
            go_wp2_with fail
            (with_reducible refine (CU.out _).mono ?_)
            rintro e w191 ⟨rfl, hb⟩
            have H192 := Lib.hid ((H177.out).below hb)
            have H193 := Lib.hid ((H178.out).below hb)
            have H194 := Lib.hid ((H179.out).below hb)
            have hb195 := bcall hb180 hb
            clear hb hb180 H177 H178 H179 c181 c182 c183 c184 c185 c186 c187 c188 c189 c190
            obtain ⟨⟨c196, c197⟩, ⟨c198, c199⟩, c200⟩ := H194.out.two
            go_wp2_with fail
            refine bodyPost_ret (v := .tuple #[.agg #[.int .i64 u1, .int .i64 u2], .int .i64 0]) ?_ rfl ⟨rfl, ?_⟩
            · simp [results, Tryd.results33, go_sem, *]
            · have hBB := hb195
              clear c196 c197 c198 c199 c200
              repeat' first | (with_reducible assumption) | (with_reducible exact Nat.le_refl _) | (with_reducible refine setB ?_ ?_) | (with_reducible refine Below.drew ?_) | (with_reducible refine bnew ?_ _) | omega
      · rw [show simR a b = ((0, 0), 1) by unfold simR; rw [h1, h2, show decide (cmpR a b ≤ 0) = false by simpa using h3]; rfl]
        rw [h1] at VA
        rw [h2] at VB
        clear h1 h2 ha hb
        generalize cmpR a b = cc at *
        have dc : decide (0 < cc) = true := by simpa using h3
        clear h3
        obtain ⟨a1, a2⟩ := a
        obtain ⟨b1, b2⟩ := b
        dsimp only at *
        go_enter Tryd.func33, Tryd.ntmps33
        go_wp2_with fail
        (with_reducible refine (VA.out _).mono ?_)
        rintro e w31 ⟨rfl, hb⟩
        have H32 := Lib.hid ((((OwnC.new w #[.int .i64 a1, .int .i64 a2] 23).old (.cells #[.int .i64 b1, .int .i64 b2] 23)).old (.cells #[.int .i64 0, .int .i64 0] 23)).below hb)
        have H33 := Lib.hid (((OwnC.new2 w (.cells #[.int .i64 a1, .int .i64 a2] 23) #[.int .i64 b1, .int .i64 b2] 23).old (.cells #[.int .i64 0, .int .i64 0] 23)).below hb)
        have H34 := Lib.hid ((OwnC.new3 w (.cells #[.int .i64 a1, .int .i64 a2] 23) (.cells #[.int .i64 b1, .int .i64 b2] 23) #[.int .i64 0, .int .i64 0] 23).below hb)
        have hb35 := bcall (bnew (bnew (bnew (Below.refl _ w) (.cells #[.int .i64 a1, .int .i64 a2] 23)) (.cells #[.int .i64 b1, .int .i64 b2] 23)) (.cells #[.int .i64 0, .int .i64 0] 23)) hb
        clear hb
        obtain ⟨⟨c36, c37⟩, ⟨c38, c39⟩, c40⟩ := H33.out.two
        go_wp2_with fail
        (with_reducible refine (VB.out _).mono ?_)
        rintro e w41 ⟨rfl, hb⟩
        have H42 := Lib.hid ((H32.out).below hb)
        have H43 := Lib.hid ((H33.out).below hb)
        have H44 := Lib.hid ((H34.out).below hb)
        have hb45 := bcall hb35 hb
        clear hb hb35 H32 H33 H34 c36 c37 c38 c39 c40
        obtain ⟨⟨c46, c47⟩, ⟨c48, c49⟩, c50⟩ := H42.out.two
        obtain ⟨⟨c51, c52⟩, ⟨c53, c54⟩, c55⟩ := H43.out.two
        go_wp2_with fail
        (with_reducible refine (VC.out _).mono ?_)
        rintro e w56 ⟨rfl, hb⟩
        have H57 := Lib.hid ((H42.out).below hb)
        have H58 := Lib.hid ((H43.out).below hb)
        have H59 := Lib.hid ((H44.out).below hb)
        have hb60 := bcall hb45 hb
        clear hb hb45 H42 H43 H44 c46 c47 c48 c49 c50 c51 c52 c53 c54 c55
        obtain ⟨⟨c61, c62⟩, ⟨c63, c64⟩, c65⟩ := H59.out.two
        go_wp2_with fail
        refine bodyPost_ret (v := .tuple #[.agg #[.int .i64 0, .int .i64 0], .int .i64 1]) ?_ rfl ⟨rfl, ?_⟩
        · simp [results, Tryd.results33, go_sem, *]
        · have hBB := hb60
          clear c61 c62 c63 c64 c65
          repeat' first | (with_reducible assumption) | (with_reducible exact Nat.le_refl _) | (with_reducible refine setB ?_ ?_) | (with_reducible refine Below.drew ?_) | (with_reducible refine bnew ?_ _) | omega
end Go.Proofs.YtinnlahmlepeeaaDoor
