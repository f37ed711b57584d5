/- The reference's functions on vectors. -/
import Derived.Test.YtiehbakloldkcaaVecI
namespace Go.Proofs.Ytiehbakloldkcaa
open Go.RowKit
theorem rin_any (n : Int) (w : World) : Calls Try.prog 40 #[.int .i64 n] w fun e w' => e = .returned (.bool (inC n)) ∧ w = w' := by
  go_enter Try.func40, Try.ntmps40
  go_wp2
  all_goals
    go_ret
    exact ⟨ret_bool (by rw [Bool.eq_iff_iff]; simp [inC]; omega), rfl⟩
theorem rIn_any (v : V3) (w : World) : Calls Try.prog 16 #[.agg #[.int .i64 v.1, .int .i64 v.2.1, .int .i64 v.2.2]] w fun e w' => e = .returned (.bool (inV v)) ∧ Below w.heap.size w w' := by
  have h1 : inC v.1 = true ∨ inC v.1 = false := by cases inC v.1 <;> simp
  have h2 : inC v.2.1 = true ∨ inC v.2.1 = false := by cases inC v.2.1 <;> simp
  have HV : Hid (inV v = (inC v.1 && (inC v.2.1 && inC v.2.2))) := Lib.hid rfl
  rcases h1 with h1 | h1 <;> rcases h2 with h2 | h2
  all_goals
    have H1 := Lib.hid h1
    have H2 := Lib.hid h2
    have R1 : Hid (∀ w, Calls Try.prog 40 #[.int .i64 v.1] w fun e w' => e = .returned (.bool (inC v.1)) ∧ w = w') := Lib.hid fun w => rin_any v.1 w
    rw [h1] at R1
    have R2 : Hid (∀ w, Calls Try.prog 40 #[.int .i64 v.2.1] w fun e w' => e = .returned (.bool (inC v.2.1)) ∧ w = w') := Lib.hid fun w => rin_any v.2.1 w
    rw [h2] at R2
    have R3 : Hid (∀ w, Calls Try.prog 40 #[.int .i64 v.2.2] w fun e w' => e = .returned (.bool (inC v.2.2)) ∧ w = w') := Lib.hid fun w => rin_any v.2.2 w
    clear h1 h2
    go_enter Try.func16, Try.ntmps16
    go_wp2_with (go_at_call 40; (first | (with_reducible refine (R1.out _).mono ?_) | (with_reducible refine (R2.out _).mono ?_) | (with_reducible refine (R3.out _).mono ?_)); rintro e w' ⟨rfl, rfl⟩)
    go_ret
    exact ⟨ret_bool (by simp [HV.out, H1.out, H2.out]), b1 _ _⟩
theorem rInPoint_any (v : P2) (w : World) : Calls Try.prog 31 #[.agg #[.int .i64 v.1, .int .i64 v.2]] w fun e w' => e = .returned (.bool (inP v)) ∧ Below w.heap.size w w' := by
  have h1 : inC v.1 = true ∨ inC v.1 = false := by cases inC v.1 <;> simp
  have HV : Hid (inP v = (inC v.1 && inC v.2)) := Lib.hid rfl
  rcases h1 with h1 | h1
  all_goals
    have H1 := Lib.hid h1
    have R1 : Hid (∀ w, Calls Try.prog 40 #[.int .i64 v.1] w fun e w' => e = .returned (.bool (inC v.1)) ∧ w = w') := Lib.hid fun w => rin_any v.1 w
    rw [h1] at R1
    have R2 : Hid (∀ w, Calls Try.prog 40 #[.int .i64 v.2] w fun e w' => e = .returned (.bool (inC v.2)) ∧ w = w') := Lib.hid fun w => rin_any v.2 w
    clear h1
    go_enter Try.func31, Try.ntmps31
    go_wp2_with (go_at_call 40; (first | (with_reducible refine (R1.out _).mono ?_) | (with_reducible refine (R2.out _).mono ?_)); rintro e w' ⟨rfl, rfl⟩)
    go_ret
    exact ⟨ret_bool (by simp [HV.out, H1.out]), b1 _ _⟩
theorem rless_any (p q : V3) (w : World) : Calls Try.prog 42 #[.agg #[.int .i64 p.1, .int .i64 p.2.1, .int .i64 p.2.2], .agg #[.int .i64 q.1, .int .i64 q.2.1, .int .i64 q.2.2]] w fun e w' => e = .returned (.bool (befV p q)) ∧ Below w.heap.size w w' := by
  have HV := Lib.hid (befV_iff p q)
  by_cases e1 : p.1 = q.1
  · have t1 : (p.1 != q.1) = false := by simp [e1]
    have E1 := Lib.hid e1
    clear e1
    by_cases e2 : p.2.1 = q.2.1
    · have t2 : (p.2.1 != q.2.1) = false := by simp [e2]
      have E2 := Lib.hid e2
      clear e2
      go_enter Try.func42, Try.ntmps42
      go_wp2
      all_goals
        go_ret
        exact ⟨ret_bool (by rw [Bool.eq_iff_iff, HV.out]; simp [E1.out, E2.out]), b2 _ _ _⟩
    · have t2 : (p.2.1 != q.2.1) = true := by simp [e2]
      have E2 := Lib.hid e2
      clear e2
      go_enter Try.func42, Try.ntmps42
      go_wp2
      all_goals
        go_ret
        exact ⟨ret_bool (by rw [Bool.eq_iff_iff, HV.out]; simp [E1.out, E2.out]), b2 _ _ _⟩
  · have t1 : (p.1 != q.1) = true := by simp [e1]
    have E1 := Lib.hid e1
    clear e1
    go_enter Try.func42, Try.ntmps42
    go_wp2
    all_goals
      go_ret
      exact ⟨ret_bool (by rw [Bool.eq_iff_iff, HV.out]; simp [E1.out]), b2 _ _ _⟩
theorem rCompare_any (p q : V3) (w : World) : Calls Try.prog 18 #[.agg #[.int .i64 p.1, .int .i64 p.2.1, .int .i64 p.2.2], .agg #[.int .i64 q.1, .int .i64 q.2.1, .int .i64 q.2.2]] w fun e w' => e = .returned (.int .i64 (cmpV p q)) ∧ Below w.heap.size w w' := by
  have HB0 := Lib.hid (At3.new w 23 p |>.old (.cells #[.int .i64 q.1, .int .i64 q.2.1, .int .i64 q.2.2] 23))
  have HB1 := Lib.hid (At3.new2 w (.cells #[.int .i64 p.1, .int .i64 p.2.1, .int .i64 p.2.2] 23) 23 q)
  have hb0 := b2 w (.cells #[.int .i64 p.1, .int .i64 p.2.1, .int .i64 p.2.2] 23) (.cells #[.int .i64 q.1, .int .i64 q.2.1, .int .i64 q.2.2] 23)
  have R1 : Hid (∀ w, Calls Try.prog 42 #[.agg #[.int .i64 p.1, .int .i64 p.2.1, .int .i64 p.2.2], .agg #[.int .i64 q.1, .int .i64 q.2.1, .int .i64 q.2.2]] w fun e w' => e = .returned (.bool (befV p q)) ∧ Below w.heap.size w w') := Lib.hid fun w => rless_any p q w
  have R2 : Hid (∀ w, Calls Try.prog 42 #[.agg #[.int .i64 q.1, .int .i64 q.2.1, .int .i64 q.2.2], .agg #[.int .i64 p.1, .int .i64 p.2.1, .int .i64 p.2.2]] w fun e w' => e = .returned (.bool (befV q p)) ∧ Below w.heap.size w w') := Lib.hid fun w => rless_any q p w
  rcases cmpV_cases p q with ⟨h, h', e⟩ | ⟨h, h', e⟩ | ⟨h, h', e⟩
  · have HE := Lib.hid e
    rw [h] at R1
    clear h h' e
    go_enter Try.func18, Try.ntmps18
    go_wp2_with fail
    (with_reducible refine (R1.out _).mono ?_)
    rintro e w1 ⟨rfl, hb⟩
    have hbb := bcall hb0 hb
    clear hb hb0
    go_wp2_with fail
    go_ret
    exact ⟨ret_int HE.out.symm, hbb⟩
  · have HE := Lib.hid e
    rw [h'] at R1
    rw [h] at R2
    clear h h' e
    go_enter Try.func18, Try.ntmps18
    go_wp2_with fail
    (with_reducible refine (R1.out _).mono ?_)
    rintro e w1 ⟨rfl, hb⟩
    obtain ⟨g0, g1, g2⟩ := HB0.out.below hb
    obtain ⟨k0, k1, k2⟩ := HB1.out.below hb
    have hbb := bcall hb0 hb
    clear hb hb0 HB0 HB1
    go_wp2_with fail
    (with_reducible refine (R2.out _).mono ?_)
    rintro e w2 ⟨rfl, hb⟩
    have hbc := bcall hbb hb
    clear hb hbb
    go_wp2_with fail
    go_ret
    exact ⟨ret_int HE.out.symm, hbc⟩
  · have HE := Lib.hid e
    rw [h'] at R1
    have hq : befV q p = false := by rw [← h, ← h']; subst h; rfl
    rw [hq] at R2
    clear h h' e hq
    go_enter Try.func18, Try.ntmps18
    go_wp2_with fail
    (with_reducible refine (R1.out _).mono ?_)
    rintro e w1 ⟨rfl, hb⟩
    obtain ⟨g0, g1, g2⟩ := HB0.out.below hb
    obtain ⟨k0, k1, k2⟩ := HB1.out.below hb
    have hbb := bcall hb0 hb
    clear hb hb0 HB0 HB1
    go_wp2_with fail
    (with_reducible refine (R2.out _).mono ?_)
    rintro e w2 ⟨rfl, hb⟩
    have hbc := bcall hbb hb
    clear hb hbb
    go_wp2_with fail
    go_ret
    exact ⟨ret_int HE.out.symm, hbc⟩
end Go.Proofs.Ytiehbakloldkcaa
