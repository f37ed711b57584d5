/- The number of common points of two segments of space whose points lie in the range. -/
import Derived.Test.YtiehbakloldkcaaVecJ
namespace Go.Proofs.Ytiehbakloldkcaa
open Go.RowKit
attribute [local go_sem ↓] Go.wp_at_zero Go.wp_at_succ
def meetV (a b c d : V3) : Int :=
  if trn (pr a) (pr b) (pr c) = 0 ∧ trn (pr a) (pr b) (pr d) = 0 ∧ trn (pr c) (pr d) (pr a) = 0 ∧ trn (pr c) (pr d) (pr b) = 0 then onLine a b c d
  else if 0 < trn (pr a) (pr b) (pr c) * trn (pr a) (pr b) (pr d) ∨ 0 < trn (pr c) (pr d) (pr a) * trn (pr c) (pr d) (pr b) then 0 else 1
def meetT (s t u v x : Int) : Int := if s = 0 ∧ t = 0 ∧ u = 0 ∧ v = 0 then x else if 0 < s * t ∨ 0 < u * v then 0 else 1
theorem trn_bd (a b c : P2) : -1 ≤ trn a b c ∧ trn a b c ≤ 1 := by
  unfold trn
  rcases sgn_cases (det a b c) with e | e | e <;> rw [e] <;> omega
theorem mul11 {s t : Int} (hs : -1 ≤ s ∧ s ≤ 1) (ht : -1 ≤ t ∧ t ≤ 1) : -1 ≤ s * t ∧ s * t ≤ 1 := by
  have := mul_bd hs.1 hs.2 ht.1 ht.2
  omega

/-- The ways through the tests. -/
def Way (s t u v : Int) (k : Int) (x : Int) : Prop := meetT s t u v x = k
set_option maxHeartbeats 2000000 in
theorem meet_any (a b c d : V3) (ha : inV a = true) (hb : inV b = true) (hc : inV c = true) (hd : inV d = true) (w : World) : Calls Try.prog 51 #[.agg #[.int .i64 a.1, .int .i64 a.2.1, .int .i64 a.2.2], .agg #[.int .i64 b.1, .int .i64 b.2.1, .int .i64 b.2.2], .agg #[.int .i64 c.1, .int .i64 c.2.1, .int .i64 c.2.2], .agg #[.int .i64 d.1, .int .i64 d.2.1, .int .i64 d.2.2]] w fun e w' =>
    e = .returned (.int .i64 (meetV a b c d)) ∧ Below w.heap.size w w' := by
  have HT1 : Hid (∀ w, Calls Try.prog 50 #[.agg #[.int .i64 a.1, .int .i64 a.2.1, .int .i64 a.2.2], .agg #[.int .i64 b.1, .int .i64 b.2.1, .int .i64 b.2.2], .agg #[.int .i64 c.1, .int .i64 c.2.1, .int .i64 c.2.2]] w fun e w' => e = .returned (.int .i64 (trn (pr a) (pr b) (pr c))) ∧ Below w.heap.size w w') := Lib.hid fun w => turn_any a b c ha hb hc w
  have HT2 : Hid (∀ w, Calls Try.prog 50 #[.agg #[.int .i64 a.1, .int .i64 a.2.1, .int .i64 a.2.2], .agg #[.int .i64 b.1, .int .i64 b.2.1, .int .i64 b.2.2], .agg #[.int .i64 d.1, .int .i64 d.2.1, .int .i64 d.2.2]] w fun e w' => e = .returned (.int .i64 (trn (pr a) (pr b) (pr d))) ∧ Below w.heap.size w w') := Lib.hid fun w => turn_any a b d ha hb hd w
  have HT3 : Hid (∀ w, Calls Try.prog 50 #[.agg #[.int .i64 c.1, .int .i64 c.2.1, .int .i64 c.2.2], .agg #[.int .i64 d.1, .int .i64 d.2.1, .int .i64 d.2.2], .agg #[.int .i64 a.1, .int .i64 a.2.1, .int .i64 a.2.2]] w fun e w' => e = .returned (.int .i64 (trn (pr c) (pr d) (pr a))) ∧ Below w.heap.size w w') := Lib.hid fun w => turn_any c d a hc hd ha w
  have HT4 : Hid (∀ w, Calls Try.prog 50 #[.agg #[.int .i64 c.1, .int .i64 c.2.1, .int .i64 c.2.2], .agg #[.int .i64 d.1, .int .i64 d.2.1, .int .i64 d.2.2], .agg #[.int .i64 b.1, .int .i64 b.2.1, .int .i64 b.2.2]] w fun e w' => e = .returned (.int .i64 (trn (pr c) (pr d) (pr b))) ∧ Below w.heap.size w w') := Lib.hid fun w => turn_any c d b hc hd hb w
  have HL : Hid (∀ w, Calls Try.prog 55 #[.agg #[.int .i64 a.1, .int .i64 a.2.1, .int .i64 a.2.2], .agg #[.int .i64 b.1, .int .i64 b.2.1, .int .i64 b.2.2], .agg #[.int .i64 c.1, .int .i64 c.2.1, .int .i64 c.2.2], .agg #[.int .i64 d.1, .int .i64 d.2.1, .int .i64 d.2.2]] w fun e w' => e = .returned (.int .i64 (onLine a b c d)) ∧ Below w.heap.size w w') := Lib.hid fun w => meetOnLine_any a b c d w
  have HV : Hid (meetV a b c d = meetT (trn (pr a) (pr b) (pr c)) (trn (pr a) (pr b) (pr d)) (trn (pr c) (pr d) (pr a)) (trn (pr c) (pr d) (pr b)) (onLine a b c d)) := Lib.hid rfl
  have s1 := trn_bd (pr a) (pr b) (pr c)
  have s2 := trn_bd (pr a) (pr b) (pr d)
  have s3 := trn_bd (pr c) (pr d) (pr a)
  have s4 := trn_bd (pr c) (pr d) (pr b)
  generalize trn (pr a) (pr b) (pr c) = s at *
  generalize trn (pr a) (pr b) (pr d) = t at *
  generalize trn (pr c) (pr d) (pr a) = u at *
  generalize trn (pr c) (pr d) (pr b) = v at *
  generalize onLine a b c d = x at *
  generalize meetV a b c d = y at *
  obtain ⟨m1, m2⟩ := mul11 s1 s2
  obtain ⟨m3, m4⟩ := mul11 s3 s4
  clear s1 s2 s3 s4 ha hb hc hd
  have H := Lib.hid (Four.new w 23 a b c d)
  have hb0 := b4 w (.cells #[.int .i64 a.1, .int .i64 a.2.1, .int .i64 a.2.2] 23) (.cells #[.int .i64 b.1, .int .i64 b.2.1, .int .i64 b.2.2] 23) (.cells #[.int .i64 c.1, .int .i64 c.2.1, .int .i64 c.2.2] 23) (.cells #[.int .i64 d.1, .int .i64 d.2.1, .int .i64 d.2.2] 23)
  go_enter Try.func51, Try.ntmps51
  go_upto_region 1 with fail
  generalize ((((w.alloc (.cells #[.int .i64 a.1, .int .i64 a.2.1, .int .i64 a.2.2] 23)).alloc (.cells #[.int .i64 b.1, .int .i64 b.2.1, .int .i64 b.2.2] 23)).alloc (.cells #[.int .i64 c.1, .int .i64 c.2.1, .int .i64 c.2.2] 23)).alloc (.cells #[.int .i64 d.1, .int .i64 d.2.1, .int .i64 d.2.2] 23)) = w3 at *
  go_region_held3 (fun w' => w'.cell? ⟨(w.heap.size), 0, none⟩ = some (.int .i64 a.1) ∧ w'.cell? ⟨(w.heap.size), 1, none⟩ = some (.int .i64 a.2.1) ∧ w'.cell? ⟨(w.heap.size), 2, none⟩ = some (.int .i64 a.2.2) ∧ w'.cell? ⟨(w.heap.size + 1), 0, none⟩ = some (.int .i64 b.1) ∧ w'.cell? ⟨(w.heap.size + 1), 1, none⟩ = some (.int .i64 b.2.1) ∧ w'.cell? ⟨(w.heap.size + 1), 2, none⟩ = some (.int .i64 b.2.2) ∧ w'.cell? ⟨(w.heap.size + 1 + 1), 0, none⟩ = some (.int .i64 c.1) ∧ w'.cell? ⟨(w.heap.size + 1 + 1), 1, none⟩ = some (.int .i64 c.2.1) ∧ w'.cell? ⟨(w.heap.size + 1 + 1), 2, none⟩ = some (.int .i64 c.2.2) ∧ w'.cell? ⟨(w.heap.size + 1 + 1 + 1), 0, none⟩ = some (.int .i64 d.1) ∧ w'.cell? ⟨(w.heap.size + 1 + 1 + 1), 1, none⟩ = some (.int .i64 d.2.1) ∧ w'.cell? ⟨(w.heap.size + 1 + 1 + 1), 2, none⟩ = some (.int .i64 d.2.2) ∧ Below w3.heap.size w3 w')
    ((refine mk12 H ?_; repeat' first | (with_reducible assumption) | (with_reducible exact Below.refl _ _) | (with_reducible refine bnew ?_ _) | (with_reducible refine Below.drew ?_) | (with_reducible refine setB ?_ ?_) | omega))
    ((go_at_call 50; (first | (with_reducible refine (HT1.out _).mono ?_) | (with_reducible refine (HT2.out _).mono ?_) | (with_reducible refine (HT3.out _).mono ?_) | (with_reducible refine (HT4.out _).mono ?_)); rintro e w' ⟨rfl, hb⟩; have hbb := bcall12 (by assumption) hb; clear hb))
  rename_i hHl
  have hbb := bcall12 hHl (Below.refl _ _)
  have ⟨q1, q2, q3, q4, q5, q6, q7, q8, q9, q10, q11, q12, _⟩ := hHl
  clear hHl H HT1 HT2 HT3 HT4
  have hbw := bcall hb0 hbb
  clear hb0 hbb
  by_cases z : s = 0 ∧ t = 0 ∧ u = 0 ∧ v = 0
  · have HR : Hid (y = x) := Lib.hid (by rw [HV.out, meetT, if_pos z])
    have e1 : (s == 0) = true := by simp [z.1]
    have e2 : (t == 0) = true := by simp [z.2.1]
    have e3 : (u == 0) = true := by simp [z.2.2.1]
    have e4 : (v == 0) = true := by simp [z.2.2.2]
    clear z HV
    go_wp2_with fail
    (with_reducible refine (HL.out _).mono ?_)
    rintro e w6 ⟨rfl, hb⟩
    have hbx := bcall hbw hb
    clear hb hbw
    go_wp2_with fail
    go_ret
    exact ⟨ret_int HR.out.symm, hbx⟩
  · have hz : (s == 0) = false ∨ ((s == 0) = true ∧ (t == 0) = false) ∨ ((s == 0) = true ∧ (t == 0) = true ∧ (u == 0) = false) ∨ ((s == 0) = true ∧ (t == 0) = true ∧ (u == 0) = true ∧ (v == 0) = false) := by
      simp only [beq_eq_false_iff_ne, beq_iff_eq, ne_eq]
      omega
    have hp : (decide (0 < s * t) = true ∧ y = 0) ∨ (decide (0 < s * t) = false ∧ decide (0 < u * v) = true ∧ y = 0) ∨ (decide (0 < s * t) = false ∧ decide (0 < u * v) = false ∧ y = 1) := by
      by_cases p1 : 0 < s * t
      · exact .inl ⟨by simpa using p1, by rw [HV.out, meetT, if_neg z, if_pos (.inl p1)]⟩
      · by_cases p2 : 0 < u * v
        · exact .inr (.inl ⟨by simpa using p1, by simpa using p2, by rw [HV.out, meetT, if_neg z, if_pos (.inr p2)]⟩)
        · exact .inr (.inr ⟨by simpa using p1, by simpa using p2, by rw [HV.out, meetT, if_neg z, if_neg (by omega)]⟩)
    clear HV z HL
    rcases hz with e1 | ⟨e1, e2⟩ | ⟨e1, e2, e3⟩ | ⟨e1, e2, e3, e4⟩ <;> rcases hp with ⟨p1, py⟩ | ⟨p1, p2, py⟩ | ⟨p1, p2, py⟩
    all_goals
      have HR := Lib.hid py
      clear py
      go_wp2_with fail
      go_ret
      exact ⟨ret_int HR.out.symm, hbw⟩
end Go.Proofs.Ytiehbakloldkcaa
