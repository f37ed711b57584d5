/- slices.Compare at two rows of three numbers; equality of vectors. -/
import Derived.Test.YtiehbakloldkcaaVecR
namespace Go.Proofs.Ytiehbakloldkcaa
open Go.RowKit

theorem eqVec (x y : V3) (w : World) : (binOp .eql 23 (.agg #[.int .i64 x.1, .int .i64 x.2.1, .int .i64 x.2.2]) (.agg #[.int .i64 y.1, .int .i64 y.2.1, .int .i64 y.2.2])).run Try.prog w = .ok (.bool (decide (x = y))) w := by
  have u3 := Try.underlying3
  have hS : Try.prog.underlying 23 = some (.struct (Try.prog.fieldsOf 23)) := by kernel_rfl
  have hp : Try.prog.stoodInHeld 23 = false := by kernel_rfl
  rw [run_eql_struct, show (10000 : Nat) = 9999 + 1 from rfl, run_equalIn_agg w 9999 23 _ _ hS hp]
  simp only [Program.fieldsOf, Try.underlying23]
  go_simp
  obtain ⟨x1, x2, x3⟩ := x
  obtain ⟨y1, y2, y3⟩ := y
  by_cases h1 : x1 = y1 <;> by_cases h2 : x2 = y2 <;> by_cases h3 : x3 = y3 <;> simp [h1, h2, h3]

set_option maxHeartbeats 400000 in
theorem compare64_any (g h c d : Nat) (p q : V3) (w : World) (hp : At3 w g p) (hq : At3 w h q) :
    Calls Try.prog 41 #[.slice (some ⟨g, 0, none⟩) 3 c, .slice (some ⟨h, 0, none⟩) 3 d] w fun e w' => e = .returned (.int .i64 (cmpV p q)) ∧ w = w' := by
  obtain ⟨p0, p1, p2⟩ := hp
  obtain ⟨q0, q1, q2⟩ := hq
  have HC := Lib.hid (cmpV_sgn p q)
  by_cases s1 : sgn (p.1 - q.1) = 0
  · by_cases s2 : sgn (p.2.1 - q.2.1) = 0
    · have HR : Hid (cmpV p q = sgn (p.2.2 - q.2.2)) := Lib.hid (by rw [HC.out, if_neg (by simp [s1]), if_neg (by simp [s2])])
      have t1 : (sgn (p.1 - q.1) != 0) = false := by simp [s1]
      have t2 : (sgn (p.2.1 - q.2.1) != 0) = false := by simp [s2]
      clear s1 s2 HC
      by_cases s3 : sgn (p.2.2 - q.2.2) = 0
      · have t3 : (sgn (p.2.2 - q.2.2) != 0) = false := by simp [s3]
        have HR' : Hid (cmpV p q = 0) := Lib.hid (by rw [HR.out, s3])
        clear s3 HR
        go_enter Try.func41, Try.ntmps41
        go_wp2
        refine wp_loop_rounds 4 ?_
        rw [rounds_succ]
        go_wp2_with (go_at_call 54; (with_reducible refine (cmp64_any _ _ _).mono ?_); rintro e w' ⟨rfl, rfl⟩)
        rw [rounds_succ]
        go_wp2_with (go_at_call 54; (with_reducible refine (cmp64_any _ _ _).mono ?_); rintro e w' ⟨rfl, rfl⟩)
        rw [rounds_succ]
        go_wp2_with (go_at_call 54; (with_reducible refine (cmp64_any _ _ _).mono ?_); rintro e w' ⟨rfl, rfl⟩)
        rw [rounds_succ]
        go_wp2_with fail
        go_ret
        exact ⟨ret_int HR'.out.symm, rfl⟩
      · have t3 : (sgn (p.2.2 - q.2.2) != 0) = true := by simp [s3]
        clear s3
        go_enter Try.func41, Try.ntmps41
        go_wp2
        refine wp_loop_rounds 4 ?_
        rw [rounds_succ]
        go_wp2_with (go_at_call 54; (with_reducible refine (cmp64_any _ _ _).mono ?_); rintro e w' ⟨rfl, rfl⟩)
        rw [rounds_succ]
        go_wp2_with (go_at_call 54; (with_reducible refine (cmp64_any _ _ _).mono ?_); rintro e w' ⟨rfl, rfl⟩)
        rw [rounds_succ]
        go_wp2_with (go_at_call 54; (with_reducible refine (cmp64_any _ _ _).mono ?_); rintro e w' ⟨rfl, rfl⟩)
        go_ret
        exact ⟨ret_int HR.out.symm, rfl⟩
    · have HR : Hid (cmpV p q = sgn (p.2.1 - q.2.1)) := Lib.hid (by rw [HC.out, if_neg (by simp [s1]), if_pos s2])
      have t1 : (sgn (p.1 - q.1) != 0) = false := by simp [s1]
      have t2 : (sgn (p.2.1 - q.2.1) != 0) = true := by simp [s2]
      clear s1 s2 HC
      go_enter Try.func41, Try.ntmps41
      go_wp2
      refine wp_loop_rounds 4 ?_
      rw [rounds_succ]
      go_wp2_with (go_at_call 54; (with_reducible refine (cmp64_any _ _ _).mono ?_); rintro e w' ⟨rfl, rfl⟩)
      rw [rounds_succ]
      go_wp2_with (go_at_call 54; (with_reducible refine (cmp64_any _ _ _).mono ?_); rintro e w' ⟨rfl, rfl⟩)
      go_ret
      exact ⟨ret_int HR.out.symm, rfl⟩
  · have HR : Hid (cmpV p q = sgn (p.1 - q.1)) := Lib.hid (by rw [HC.out, if_pos s1])
    have t1 : (sgn (p.1 - q.1) != 0) = true := by simp [s1]
    clear s1 HC
    go_enter Try.func41, Try.ntmps41
    go_wp2
    refine wp_loop_rounds 4 ?_
    rw [rounds_succ]
    go_wp2_with (go_at_call 54; (with_reducible refine (cmp64_any _ _ _).mono ?_); rintro e w' ⟨rfl, rfl⟩)
    go_ret
    exact ⟨ret_int HR.out.symm, rfl⟩
end Go.Proofs.Ytiehbakloldkcaa
