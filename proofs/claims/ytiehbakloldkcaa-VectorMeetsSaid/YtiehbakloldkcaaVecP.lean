/- Primitive vectors. -/
import Derived.Test.YtiehbakloldkcaaVecI
import Derived.Test.YtiehbakloldkcaaVecN
import Derived.RegionTactic
import Derived.Deep.DeepCutAuto
import Derived.Deep.CutBlock
namespace Go.Proofs.Ytiehbakloldkcaa
open Go.RowKit
attribute [local go_sem ↓] Go.wp_at_zero Go.wp_at_succ
theorem gcd_le_max (a b m : Nat) (ha : a ≤ m) (hb : b ≤ m) : Nat.gcd a b ≤ m := by
  rcases Nat.eq_zero_or_pos a with h | h
  · subst h; rwa [Nat.gcd_zero_left]
  · exact Nat.le_trans (Nat.gcd_le_left b h) ha
def prmR (v : V3) : V3 × Int × Int := if inV v then (if v = (0, 0, 0) then ((0, 0, 0), 0, 1) else (prmV v, gcdV v, 0)) else ((0, 0, 0), 0, 6)
set_option maxHeartbeats 1000000 in
theorem prim_ok (v : V3) (hin : inV v = true) (hnz : v ≠ (0, 0, 0)) (w : World) : Calls Try.prog 27 #[.agg #[.int .i64 v.1, .int .i64 v.2.1, .int .i64 v.2.2]] w fun e w' =>
    e = .returned (.tuple #[.agg #[.int .i64 (prmV v).1, .int .i64 (prmV v).2.1, .int .i64 (prmV v).2.2], .int .i64 (gcdV v), .int .i64 0]) ∧ Below w.heap.size w w' := by
  have HC : Hid (∀ w, Calls Try.prog 15 #[.agg #[.int .i64 v.1, .int .i64 v.2.1, .int .i64 v.2.2]] w fun e w' => e = .returned (.int .i64 0) ∧ Below w.heap.size w w') := Lib.hid fun w => by have := vCheck_any v w; rwa [errV1, hin] at this
  have he := fun w => eqVec v (0, 0, 0) w
  have hd : decide (v = (0, 0, 0)) = false := by simpa using hnz
  rw [hd] at he
  clear hd
  have hb' := (inV_iff v).1 hin
  obtain ⟨⟨a1, a2⟩, ⟨a3, a4⟩, a5, a6⟩ := hb'
  have i0 : ∀ w, (Instr.index 36 (.agg #[.int .i64 v.1, .int .i64 v.2.1, .int .i64 v.2.2]) (.int .i64 0)).run Try.prog w = .ok (.int .i64 v.1) w := fun _ => by kernel_rfl
  have i1 : ∀ w, (Instr.index 36 (.agg #[.int .i64 v.1, .int .i64 v.2.1, .int .i64 v.2.2]) (.int .i64 1)).run Try.prog w = .ok (.int .i64 v.2.1) w := fun _ => by kernel_rfl
  have i2 : ∀ w, (Instr.index 36 (.agg #[.int .i64 v.1, .int .i64 v.2.1, .int .i64 v.2.2]) (.int .i64 2)).run Try.prog w = .ok (.int .i64 v.2.2) w := fun _ => by kernel_rfl
  have O2 := Lib.hid (Zed.new2 w (.cells #[.int .i64 v.1, .int .i64 v.2.1, .int .i64 v.2.2] 23) 23)
  have A2 := Lib.hid ((At3.new w 23 v).old (.cells #[.int .i64 0, .int .i64 0, .int .i64 0] 23))
  have hb0 := b2 w (.cells #[.int .i64 v.1, .int .i64 v.2.1, .int .i64 v.2.2] 23) (.cells #[.int .i64 0, .int .i64 0, .int .i64 0] 23)
  have GP := Lib.hid (gcdV_pos hnz)
  have GQ := Lib.hid (gcdV_le hin hnz)
  clear hin hnz
  go_enter Try.func27, Try.ntmps27
  go_wp2_with fail
  (with_reducible refine (HC.out _).mono ?_)
  rintro e w1 ⟨rfl, hb⟩
  have O1 := Lib.hid (O2.out.below hb)
  have r1 := A2.out.below hb
  obtain ⟨g0, g1, g2⟩ := r1
  have hbb := bcall hb0 hb
  clear hb hb0 O2 A2 HC
  go_wp2_with fail
  (with_reducible refine (coordinates_any _ _).mono ?_)
  rintro e w2 ⟨rfl, hb⟩
  have O3 := Lib.hid ((O1.out.below hb).old (.cells #[.int .i64 v.1, .int .i64 v.2.1, .int .i64 v.2.2] 36))
  have hbc := bnew (bcall hbb hb) (.cells #[.int .i64 v.1, .int .i64 v.2.1, .int .i64 v.2.2] 36)
  have O6 := Lib.hid (Own3.new w2 36 v)
  have hsz : w.heap.size + 1 + 1 ≤ w2.heap.size := by have := (O1.out.below hb).2.2; omega
  clear hb hbb O1 he g0 g1 g2
  obtain ⟨g1, hg1⟩ : ∃ g, v.1.natAbs = g := ⟨_, rfl⟩
  obtain ⟨g2, hg2⟩ : ∃ g, Nat.gcd g1 v.2.1.natAbs = g := ⟨_, rfl⟩
  obtain ⟨g3, hg3⟩ : ∃ g, Nat.gcd g2 v.2.2.natAbs = g := ⟨_, rfl⟩
  have hl1 : g1 ≤ 1000000 := by omega
  have hl2 : g2 ≤ 1000000 := by rw [← hg2]; exact gcd_le_max _ _ _ hl1 (by omega)
  have hgv : gcdV v = (g3 : Int) := by rw [← hg3, ← hg2, ← hg1]; rfl
  have hgp : 1 ≤ (g3 : Int) := by rw [← hgv]; exact GP.out
  have hgq : (g3 : Int) ≤ 1000000 := by rw [← hgv]; exact GQ.out
  have HGV := Lib.hid hgv
  have HJ : Hid (∀ w, Calls Try.prog 46 #[.agg #[.int .i64 (v.1.tdiv g3), .int .i64 (v.2.1.tdiv g3), .int .i64 (v.2.2.tdiv g3)]] w fun e w' => e = .returned (.agg #[.int .i64 (v.1.tdiv g3), .int .i64 (v.2.1.tdiv g3), .int .i64 (v.2.2.tdiv g3)]) ∧ Below w.heap.size w w') := Lib.hid fun w => joined_any (v.1.tdiv g3, v.2.1.tdiv g3, v.2.2.tdiv g3) w
  have hnew : w2.heap.size ≠ w.heap.size + 1 := by omega
  clear hgv GP GQ
  have G1 := Lib.hid hg1
  have G2 := Lib.hid hg2
  have G3 := Lib.hid hg3
  clear hg1 hg2 hg3
  go_upto_block 0 with fail
  generalize hw3 : (w2.alloc (.cells #[.int .i64 v.1, .int .i64 v.2.1, .int .i64 v.2.2] 36)) = w3 at *
  clear hw3
  go_cut [7] (fun s wx => s = .int .i64 (g3 : Int) ∧ Below w3.heap.size w3 wx)
  case first =>
    go_wp2_with fail
    refine wp_loop_rounds 4 ?_
    rw [rounds_succ]
    go_wp2_with fail
    all_goals (refine (divisor_is g1 0 _ (Lib.hid (by rw [← G1.out]; simp)) _ (by omega) (by omega) (by omega) (by omega)).mono ?_)
    all_goals
      rintro e w4 ⟨rfl, hb1⟩
      go_wp2_with fail
      rw [rounds_succ]
      go_wp2_with fail
    all_goals (refine (divisor_is g2 (g1 : Int) _ (Lib.hid (by rw [← G2.out]; simp)) _ (by omega) (by omega) (by omega) (by omega)).mono ?_)
    all_goals
      rintro e w5 ⟨rfl, hb2⟩
      have hb3 := bcall hb1 hb2
      clear hb1 hb2
      go_wp2_with fail
      rw [rounds_succ]
      go_wp2_with fail
    all_goals (refine (divisor_is g3 (g2 : Int) _ (Lib.hid (by rw [← G3.out]; simp)) _ (by omega) (by omega) (by omega) (by omega)).mono ?_)
    all_goals
      rintro e w6 ⟨rfl, hb4⟩
      have hb5 := bcall hb3 hb4
      clear hb3 hb4
      go_wp2_with fail
      rw [rounds_succ]
      go_wp2_with fail
      go_meet
      exact ⟨rfl, hb5⟩
  case rest =>
    obtain ⟨rfl, hbx⟩ := hcut
    have O7 := O6.out.below hbx
    obtain ⟨⟨c0, c1, c2⟩, c3, c4, c5⟩ := O7
    have ZL := Lib.hid (O3.out.below hbx)
    have hby := bcall hbc hbx
    have hgz : w2.heap.size < wc.heap.size := lt_of_cell c0
    clear O6 O3 hbx hbc
    go_wp2_with fail
    refine wp_loop_rounds 4 ?_
    rw [rounds_succ]
    go_wp2_with fail
    rw [rounds_succ]
    go_wp2_with fail
    rw [rounds_succ]
    go_wp2_with fail
    rw [rounds_succ]
    go_wp2_with fail
    (with_reducible refine (HJ.out _).mono ?_)
    rintro e w6 ⟨rfl, hb⟩
    have ZW := Zed.below (Zed.set hnew (Zed.set hnew (Zed.set hnew ZL.out))) hb
    have hbx : Below w.heap.size w w6 := by
      refine bcall ?_ hb
      repeat' first | (with_reducible assumption) | (with_reducible refine Below.drew ?_) | (with_reducible refine setB ?_ ?_) | omega
    clear hb ZL hby c0 c1 c2 c3 c4 c5
    obtain ⟨⟨ra0, ra1, ra2⟩, ⟨ra3, ra4, ra5⟩, ra6⟩ := ZW
    go_wp2_with fail
    refine bodyPost_ret (v := .tuple #[.agg #[.int .i64 (v.1.tdiv g3), .int .i64 (v.2.1.tdiv g3), .int .i64 (v.2.2.tdiv g3)], .int .i64 g3, .int .i64 0]) ?_ rfl ⟨by simp [prmV, HGV.out], ?_⟩
    · simp [results, Try.results27, go_sem, *]
    · repeat' first | (with_reducible assumption) | (with_reducible refine setB ?_ ?_) | omega
theorem vPrimitive_any (v : V3) (w : World) : Calls Try.prog 27 #[.agg #[.int .i64 v.1, .int .i64 v.2.1, .int .i64 v.2.2]] w fun e w' =>
    e = .returned (.tuple #[.agg #[.int .i64 (prmR v).1.1, .int .i64 (prmR v).1.2.1, .int .i64 (prmR v).1.2.2], .int .i64 (prmR v).2.1, .int .i64 (prmR v).2.2]) ∧ Below w.heap.size w w' := by
  have O2 := Lib.hid (Zed.new2 w (.cells #[.int .i64 v.1, .int .i64 v.2.1, .int .i64 v.2.2] 23) 23)
  have A2 := Lib.hid ((At3.new w 23 v).old (.cells #[.int .i64 0, .int .i64 0, .int .i64 0] 23))
  have hb0 := b2 w (.cells #[.int .i64 v.1, .int .i64 v.2.1, .int .i64 v.2.2] 23) (.cells #[.int .i64 0, .int .i64 0, .int .i64 0] 23)
  rcases hin : inV v with _ | _
  · have HI := Lib.hid hin
    have HC : Hid (∀ w, Calls Try.prog 15 #[.agg #[.int .i64 v.1, .int .i64 v.2.1, .int .i64 v.2.2]] w fun e w' => e = .returned (.int .i64 6) ∧ Below w.heap.size w w') := Lib.hid fun w => by have := vCheck_any v w; rwa [errV1, hin] at this
    clear hin
    go_enter Try.func27, Try.ntmps27
    go_wp2_with fail
    (with_reducible refine (HC.out _).mono ?_)
    rintro e w1 ⟨rfl, hb⟩
    have ZW := O2.out.below hb
    have hbb := bcall hb0 hb
    clear hb hb0 O2 A2 HC
    obtain ⟨⟨ra0, ra1, ra2⟩, ⟨ra3, ra4, ra5⟩, ra6⟩ := ZW
    go_wp2_with fail
    refine bodyPost_ret (v := .tuple #[.agg #[.int .i64 0, .int .i64 0, .int .i64 0], .int .i64 0, .int .i64 6]) ?_ rfl ⟨by simp [prmR, HI.out], ?_⟩
    · simp [results, Try.results27, go_sem, *]
    · repeat' first | (with_reducible assumption) | (with_reducible refine setB ?_ ?_) | omega
  · by_cases hz : v = (0, 0, 0)
    · have HI := Lib.hid hin
      have HC : Hid (∀ w, Calls Try.prog 15 #[.agg #[.int .i64 v.1, .int .i64 v.2.1, .int .i64 v.2.2]] w fun e w' => e = .returned (.int .i64 0) ∧ Below w.heap.size w w') := Lib.hid fun w => by have := vCheck_any v w; rwa [errV1, hin] at this
      have he := fun w => eqVec v (0, 0, 0) w
      have hd : decide (v = (0, 0, 0)) = true := by simpa using hz
      have HZ := Lib.hid hz
      rw [hd] at he
      clear hd hin hz
      go_enter Try.func27, Try.ntmps27
      go_wp2_with fail
      (with_reducible refine (HC.out _).mono ?_)
      rintro e w1 ⟨rfl, hb⟩
      have ZW := O2.out.below hb
      have r1 := A2.out.below hb
      obtain ⟨g0, g1, g2⟩ := r1
      have hbb := bcall hb0 hb
      clear hb hb0 O2 A2 HC
      obtain ⟨⟨ra0, ra1, ra2⟩, ⟨ra3, ra4, ra5⟩, ra6⟩ := ZW
      go_wp2_with fail
      refine bodyPost_ret (v := .tuple #[.agg #[.int .i64 0, .int .i64 0, .int .i64 0], .int .i64 0, .int .i64 1]) ?_ rfl ⟨by rw [show prmR v = ((0, 0, 0), 0, 1) from by unfold prmR; rw [if_pos HI.out, if_pos HZ.out]], ?_⟩
      · simp [results, Try.results27, go_sem, *]
      · repeat' first | (with_reducible assumption) | (with_reducible refine setB ?_ ?_) | omega
    · have e : prmR v = (prmV v, gcdV v, 0) := by unfold prmR; rw [if_pos hin, if_neg hz]
      rw [e]
      exact prim_ok v hin hz w
end Go.Proofs.Ytiehbakloldkcaa
