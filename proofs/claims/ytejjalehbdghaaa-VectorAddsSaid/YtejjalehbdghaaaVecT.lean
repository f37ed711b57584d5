/- The reference's sums and products; the law's own comparison of a sum. -/
import Derived.Test.YtejjalehbdghaaaVecQ
import Derived.Test.YtejjalehbdghaaaVecP
import Derived.ChangeKeysEq
namespace Go.Proofs.Ytejjalehbdghaaa
open Go.RowKit
attribute [local go_sem ↓] Go.wp_at_zero Go.wp_at_succ
theorem eqArr (x : V3) (w : World) : (binOp .eql 36 (.agg #[.int .i64 x.1, .int .i64 x.2.1, .int .i64 x.2.2]) (.agg #[.int .i64 x.1, .int .i64 x.2.1, .int .i64 x.2.2])).run Try.prog w = .ok (.bool true) w := by
  have hu : Try.prog.underlying 36 = some (.array 3 2) := by kernel_rfl
  have hc : Try.prog.cellsOf 2 = 1 := by kernel_rfl
  have u2 := Try.underlying2
  obtain ⟨i, hi⟩ : ∃ i, Try.prog.info? 2 = some i := by
    rcases h : Try.prog.info? 2 with _ | i
    · exfalso
      have : (Try.prog.info? 2).isSome = true := by kernel_rfl
      rw [h] at this; cases this
    · exact ⟨i, rfl⟩
  rw [run_eql_struct, show (10000 : Nat) = 9999 + 1 from rfl, run_equalIn_array w 9999 _ _ hu hi, hc]
  simp [Op.eqItems, List.range, List.range.loop, part, go_sem]
theorem rAdd_any (p q : V3) (w : World) (h1 : -4000000 ≤ p.1 + q.1 ∧ p.1 + q.1 ≤ 4000000) (h2 : -4000000 ≤ p.2.1 + q.2.1 ∧ p.2.1 + q.2.1 ≤ 4000000) (h3 : -4000000 ≤ p.2.2 + q.2.2 ∧ p.2.2 + q.2.2 ≤ 4000000) :
    Calls Try.prog 20 #[.agg #[.int .i64 p.1, .int .i64 p.2.1, .int .i64 p.2.2], .agg #[.int .i64 q.1, .int .i64 q.2.1, .int .i64 q.2.2]] w fun e w' => e = .returned (.agg #[.int .i64 (addV p q).1, .int .i64 (addV p q).2.1, .int .i64 (addV p q).2.2]) ∧ Below w.heap.size w w' := by
  obtain ⟨a1, a2⟩ := h1
  obtain ⟨a3, a4⟩ := h2
  obtain ⟨a5, a6⟩ := h3
  go_enter Try.func20, Try.ntmps20
  go_wp2
  refine bodyPost_ret (v := .agg #[.int .i64 (addV p q).1, .int .i64 (addV p q).2.1, .int .i64 (addV p q).2.2]) ?_ rfl ⟨rfl, b3 _ _ _ _⟩
  simp [results, Try.results20, go_sem, addV]
theorem rSub_any (p q : V3) (w : World) (h1 : -4000000 ≤ p.1 - q.1 ∧ p.1 - q.1 ≤ 4000000) (h2 : -4000000 ≤ p.2.1 - q.2.1 ∧ p.2.1 - q.2.1 ≤ 4000000) (h3 : -4000000 ≤ p.2.2 - q.2.2 ∧ p.2.2 - q.2.2 ≤ 4000000) :
    Calls Try.prog 21 #[.agg #[.int .i64 p.1, .int .i64 p.2.1, .int .i64 p.2.2], .agg #[.int .i64 q.1, .int .i64 q.2.1, .int .i64 q.2.2]] w fun e w' => e = .returned (.agg #[.int .i64 (subV p q).1, .int .i64 (subV p q).2.1, .int .i64 (subV p q).2.2]) ∧ Below w.heap.size w w' := by
  obtain ⟨a1, a2⟩ := h1
  obtain ⟨a3, a4⟩ := h2
  obtain ⟨a5, a6⟩ := h3
  go_enter Try.func21, Try.ntmps21
  go_wp2
  refine bodyPost_ret (v := .agg #[.int .i64 (subV p q).1, .int .i64 (subV p q).2.1, .int .i64 (subV p q).2.2]) ?_ rfl ⟨rfl, b3 _ _ _ _⟩
  simp [results, Try.results21, go_sem, subV]
theorem rDot_any (p q : V3) (w : World) (h1 : -4000000000000 ≤ p.1 * q.1 ∧ p.1 * q.1 ≤ 4000000000000) (h2 : -4000000000000 ≤ p.2.1 * q.2.1 ∧ p.2.1 * q.2.1 ≤ 4000000000000) (h3 : -4000000000000 ≤ p.2.2 * q.2.2 ∧ p.2.2 * q.2.2 ≤ 4000000000000) :
    Calls Try.prog 25 #[.agg #[.int .i64 p.1, .int .i64 p.2.1, .int .i64 p.2.2], .agg #[.int .i64 q.1, .int .i64 q.2.1, .int .i64 q.2.2]] w fun e w' => e = .returned (.int .i64 (dotV p q)) ∧ Below w.heap.size w w' := by
  obtain ⟨a1, a2⟩ := h1
  obtain ⟨a3, a4⟩ := h2
  obtain ⟨a5, a6⟩ := h3
  go_enter Try.func25, Try.ntmps25
  go_wp2
  go_ret
  exact ⟨ret_int rfl, b2 _ _ _⟩
theorem rCross_any (p q : V3) (w : World) (h11 : -4000000000000 ≤ p.1 * q.2.1 ∧ p.1 * q.2.1 ≤ 4000000000000) (h12 : -4000000000000 ≤ p.1 * q.2.2 ∧ p.1 * q.2.2 ≤ 4000000000000)
    (h21 : -4000000000000 ≤ p.2.1 * q.1 ∧ p.2.1 * q.1 ≤ 4000000000000) (h22 : -4000000000000 ≤ p.2.1 * q.2.2 ∧ p.2.1 * q.2.2 ≤ 4000000000000)
    (h31 : -4000000000000 ≤ p.2.2 * q.1 ∧ p.2.2 * q.1 ≤ 4000000000000) (h32 : -4000000000000 ≤ p.2.2 * q.2.1 ∧ p.2.2 * q.2.1 ≤ 4000000000000) :
    Calls Try.prog 26 #[.agg #[.int .i64 p.1, .int .i64 p.2.1, .int .i64 p.2.2], .agg #[.int .i64 q.1, .int .i64 q.2.1, .int .i64 q.2.2]] w fun e w' => e = .returned (.agg #[.int .i64 (crsV p q).1, .int .i64 (crsV p q).2.1, .int .i64 (crsV p q).2.2]) ∧ Below w.heap.size w w' := by
  obtain ⟨a1, a2⟩ := h11
  obtain ⟨a3, a4⟩ := h12
  obtain ⟨a5, a6⟩ := h21
  obtain ⟨c1, c2⟩ := h22
  obtain ⟨c3, c4⟩ := h31
  obtain ⟨c5, c6⟩ := h32
  go_enter Try.func26, Try.ntmps26
  go_wp2
  refine bodyPost_ret (v := .agg #[.int .i64 (crsV p q).1, .int .i64 (crsV p q).2.1, .int .i64 (crsV p q).2.2]) ?_ rfl ⟨rfl, b3 _ _ _ _⟩
  simp [results, Try.results26, go_sem, crsV]
theorem lsum_any (x : V3) (w : World) : Calls Try.prog 19 #[.agg #[.int .i64 x.1, .int .i64 x.2.1, .int .i64 x.2.2], .agg #[.int .i64 (rngV x).1.1, .int .i64 (rngV x).1.2.1, .int .i64 (rngV x).1.2.2], .int .i64 (rngV x).2] w fun e w' => e = .returned (.bool true) ∧ Below w.heap.size w w' := by
  have CI : Hid (∀ w, Calls Try.prog 16 #[.agg #[.int .i64 x.1, .int .i64 x.2.1, .int .i64 x.2.2]] w fun e w' => e = .returned (.bool (inV x)) ∧ Below w.heap.size w w') := Lib.hid fun w => rIn_any x w
  have ez : ∀ w, (binOp .eql 23 (.agg #[.int .i64 0, .int .i64 0, .int .i64 0]) (.agg #[.int .i64 0, .int .i64 0, .int .i64 0])).run Try.prog w = .ok (.bool true) w := fun _ => by kernel_rfl
  have ex : ∀ w, (binOp .eql 23 (.agg #[.int .i64 x.1, .int .i64 x.2.1, .int .i64 x.2.2]) (.agg #[.int .i64 x.1, .int .i64 x.2.1, .int .i64 x.2.2])).run Try.prog w = .ok (.bool true) w := fun w => by
    have h := eqVec x x w
    rw [show decide (x = x) = true by simp] at h
    exact h
  have A0 := Lib.hid ((At3.new w 23 x).old (.cells #[.int .i64 (rngV x).1.1, .int .i64 (rngV x).1.2.1, .int .i64 (rngV x).1.2.2] 23))
  have A1 := Lib.hid (At3.new2 w (.cells #[.int .i64 x.1, .int .i64 x.2.1, .int .i64 x.2.2] 23) 23 (rngV x).1)
  have hb0 := b2 w (.cells #[.int .i64 x.1, .int .i64 x.2.1, .int .i64 x.2.2] 23) (.cells #[.int .i64 (rngV x).1.1, .int .i64 (rngV x).1.2.1, .int .i64 (rngV x).1.2.2] 23)
  have K : (inV x = false ∧ rngV x = ((0, 0, 0), 6)) ∨ (inV x = true ∧ rngV x = (x, 0)) := by
    unfold rngV
    rcases h : inV x with _ | _
    · left; exact ⟨rfl, rfl⟩
    · right; exact ⟨rfl, rfl⟩
  generalize rngV x = y at *
  rcases K with ⟨k1, k2⟩ | ⟨k1, k2⟩
  all_goals
    subst k2
    rw [k1] at CI
    clear k1
    go_enter Try.func19, Try.ntmps19
    go_wp2_with fail
    (with_reducible refine (CI.out _).mono ?_)
    rintro e w1 ⟨rfl, hb⟩
    obtain ⟨q1, q2, q3⟩ := A0.out.below hb
    obtain ⟨r1, r2, r3⟩ := A1.out.below hb
    have hbb := bcall hb0 hb
    clear hb hb0 A0 A1
    go_wp2_with fail
    go_ret
    exact ⟨rfl, hbb⟩
end Go.Proofs.Ytejjalehbdghaaa
