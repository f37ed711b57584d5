/- The reference's New; the walk of FractionNew. -/
import Derived.Test.YtinnlahmlepeeaaDoorFraV
import Derived.Test.YtinnlahmlepeeaaDoorFraO
import Derived.RegionTactic
namespace Go.Proofs.YtinnlahmlepeeaaDoor
open Go.RowKit
theorem rnew_of {n d : Int} (hd : d ≠ 0) : lowR ((n.natAbs : Int) / (Nat.gcd d.natAbs n.natAbs : Nat)) (!(decide (n < 0) == decide (d < 0))) ((d.natAbs : Int) / (Nat.gcd d.natAbs n.natAbs : Nat)) = newR n d := by
  unfold newR
  rw [if_neg hd]
  rcases Int.lt_or_le d 0 with h | h
  · have := lowR_of (z := -n) (y := -d) (by omega) (g := Nat.gcd d.natAbs n.natAbs) (by rw [Int.natAbs_neg, Int.natAbs_neg]) (!(decide (n < 0) == decide (d < 0))) ⟨fun hh => by rw [show decide (n < 0) = false by simp; omega, show decide (d < 0) = true by simpa using h]; rfl, fun hh => by rw [show decide (n < 0) = true by simp; omega, show decide (d < 0) = true by simpa using h]; rfl⟩
    rw [show Rat.divInt n d = Rat.divInt (-n) (-d) by rw [Rat.divInt_eq_divInt_iff hd (by omega), Int.mul_neg, Int.neg_mul], ← this, Int.natAbs_neg, show (d.natAbs : Int) = -d by omega]
  · have := lowR_of (z := n) (y := d) (by omega) (g := Nat.gcd d.natAbs n.natAbs) rfl (!(decide (n < 0) == decide (d < 0))) ⟨fun hh => by rw [show decide (n < 0) = true by simpa using hh, show decide (d < 0) = false by simp; omega]; rfl, fun hh => by rw [show decide (n < 0) = false by simp; omega, show decide (d < 0) = false by simp; omega]; rfl⟩
    rw [← this, show (d.natAbs : Int) = d by omega]
set_option maxHeartbeats 4000000 in
theorem rnew_any (num den : Int) (h1 : In64 num) (h2 : In64 den) (w : World) : Calls Tryd.prog 12 #[.int .i64 num, .int .i64 den] w fun e w' => e = .returned (.tuple #[.agg #[.int .i64 (newR num den).1.1, .int .i64 (newR num den).1.2], .int .i64 (newR num den).2]) ∧ Below w.heap.size w w' := by
  by_cases hd : den = 0
  · have e0 : newR num den = ((0, 0), 1) := by unfold newR; rw [if_pos hd]
    rw [e0]
    have d0 : (den == 0) = true := by simpa using hd
    clear hd e0
    go_enter Tryd.func12, Tryd.ntmps12
    go_wp2_with fail
    refine bodyPost_ret (v := .tuple #[.agg #[.int .i64 0, .int .i64 0], .int .i64 1]) ?_ rfl ⟨rfl, ?_⟩
    · simp [results, Tryd.results12, go_sem, *]
    · have hBB := Below.refl w.heap.size w
      repeat' first | (with_reducible assumption) | (with_reducible exact Nat.le_refl _) | (with_reducible refine setB ?_ ?_) | (with_reducible refine Below.drew ?_) | (with_reducible refine bnew ?_ _) | omega
  · have d0 : (den == 0) = false := by simpa using hd
    rw [← rnew_of hd]
    have b1 : (num.natAbs : Int) < 170141183460469231731687303715884105728 := by have := h1.1; have := h1.2; omega
    have b2 : (den.natAbs : Int) < 170141183460469231731687303715884105728 := by have := h2.1; have := h2.2; omega
    have p2 : 0 < (den.natAbs : Int) := by omega
    have C1 : Hid (∀ w, Calls Tryd.prog 45 #[.int .i64 num] w fun e w' => e = .returned (.agg #[.int .u64 (whi (num.natAbs : Int)), .int .u64 (wlo (num.natAbs : Int)), .bool (decide (num < 0))]) ∧ Below w.heap.size w w') := Lib.hid fun w => rone_any num h1 w
    have C2 : Hid (∀ w, Calls Tryd.prog 45 #[.int .i64 den] w fun e w' => e = .returned (.agg #[.int .u64 (whi (den.natAbs : Int)), .int .u64 (wlo (den.natAbs : Int)), .bool (decide (den < 0))]) ∧ Below w.heap.size w w') := Lib.hid fun w => rone_any den h2 w
    have CL : Hid (∀ w, Calls Tryd.prog 46 #[.agg #[.int .u64 (whi (num.natAbs : Int)), .int .u64 (wlo (num.natAbs : Int)), .bool (!(decide (num < 0) == decide (den < 0)))], .agg #[.int .u64 (whi (den.natAbs : Int)), .int .u64 (wlo (den.natAbs : Int)), .bool false]] w fun e w' => e = .returned (.tuple #[.agg #[.int .i64 (lowR ((num.natAbs : Int) / (Nat.gcd den.natAbs num.natAbs : Nat)) (!(decide (num < 0) == decide (den < 0))) ((den.natAbs : Int) / (Nat.gcd den.natAbs num.natAbs : Nat))).1.1, .int .i64 (lowR ((num.natAbs : Int) / (Nat.gcd den.natAbs num.natAbs : Nat)) (!(decide (num < 0) == decide (den < 0))) ((den.natAbs : Int) / (Nat.gcd den.natAbs num.natAbs : Nat))).1.2], .int .i64 (lowR ((num.natAbs : Int) / (Nat.gcd den.natAbs num.natAbs : Nat)) (!(decide (num < 0) == decide (den < 0))) ((den.natAbs : Int) / (Nat.gcd den.natAbs num.natAbs : Nat))).2]) ∧ Below w.heap.size w w') := Lib.hid fun w => rlowest_any (num.natAbs : Int) _ (den.natAbs : Int) false _ (by rw [Int.natAbs_natCast, Int.natAbs_natCast]) (by omega) b1 p2 b2 w
    generalize lowR ((num.natAbs : Int) / (Nat.gcd den.natAbs num.natAbs : Nat)) (!(decide (num < 0) == decide (den < 0))) ((den.natAbs : Int) / (Nat.gcd den.natAbs num.natAbs : Nat)) = R at *
    clear b1 b2 p2 h1 h2
    generalize decide (num < 0) = s at *
    generalize decide (den < 0) = t at *
    generalize whi (num.natAbs : Int) = n1 at *
    generalize wlo (num.natAbs : Int) = n2 at *
    generalize whi (den.natAbs : Int) = m1 at *
    generalize wlo (den.natAbs : Int) = m2 at *
    go_enter Tryd.func12, Tryd.ntmps12
    go_wp2_with fail
    (with_reducible refine (C1.out _).mono ?_)
    rintro e w1 ⟨rfl, hb⟩
    have H2 := Lib.hid ((OwnC.new w #[.int .i64 0, .int .i64 0] 23).below hb)
    have hb3 := bcall (bnew (Below.refl _ w) (.cells #[.int .i64 0, .int .i64 0] 23)) hb
    clear hb
    go_wp2_with fail
    (with_reducible refine (C2.out _).mono ?_)
    rintro e w4 ⟨rfl, hb⟩
    have H5 := Lib.hid ((H2.out).below hb)
    have hb6 := bcall hb3 hb
    clear hb hb3 H2
    go_wp2_with fail
    (with_reducible refine (CL.out _).mono ?_)
    rintro e w7 ⟨rfl, hb⟩
    have H8 := Lib.hid ((((H5.out).old (.cells #[.int .u64 n1, .int .u64 n2, .bool (!(s == t))] 54)).old (.cells #[.int .u64 m1, .int .u64 m2, .bool false] 54)).below hb)
    have H9 := Lib.hid (((OwnC.new w4 #[.int .u64 n1, .int .u64 n2, .bool (!(s == t))] 54).old (.cells #[.int .u64 m1, .int .u64 m2, .bool false] 54)).below hb)
    have H10 := Lib.hid ((OwnC.new2 w4 (.cells #[.int .u64 n1, .int .u64 n2, .bool (!(s == t))] 54) #[.int .u64 m1, .int .u64 m2, .bool false] 54).below hb)
    have hb11 := bcall (bnew (bnew hb6 (.cells #[.int .u64 n1, .int .u64 n2, .bool (!(s == t))] 54)) (.cells #[.int .u64 m1, .int .u64 m2, .bool false] 54)) hb
    clear hb hb6 H5
    obtain ⟨⟨c12, c13⟩, ⟨c14, c15⟩, c16⟩ := H8.out.two
    go_wp2_with fail
    refine bodyPost_ret (v := .tuple #[.agg #[.int .i64 (R).1.1, .int .i64 (R).1.2], .int .i64 (R).2]) ?_ rfl ⟨rfl, ?_⟩
    · simp [results, Tryd.results12, go_sem, *]
    · have hBB := hb11
      clear c12 c13 c14 c15 c16
      repeat' first | (with_reducible assumption) | (with_reducible exact Nat.le_refl _) | (with_reducible refine setB ?_ ?_) | (with_reducible refine Below.drew ?_) | (with_reducible refine bnew ?_ _) | omega
end Go.Proofs.YtinnlahmlepeeaaDoor
