/- The reference's Add, Sub. -/
import Derived.Test.YtinnlahmlepeeaaDoorFraSb
import Derived.Test.YtinnlahmlepeeaaDoorFraCp
import Derived.RegionTactic
import Derived.Deep.RegionHeld3
namespace Go.Proofs.YtinnlahmlepeeaaDoor
open Go.RowKit
theorem plus_math {z1 z2 M1 M2 : Int} {s1 s2 : Bool} (h1 : z1 = if s1 = true then -M1 else M1) (h2 : z2 = if s2 = true then -M2 else M2) (p1 : 0 ≤ M1) (p2 : 0 ≤ M2) :
    plusM M1 s1 M2 s2 = ((z1 + z2).natAbs : Int) ∧ ((z1 + z2 < 0 → plusS M1 s1 M2 s2 = true) ∧ (0 < z1 + z2 → plusS M1 s1 M2 s2 = false)) := by
  subst h1
  subst h2
  unfold plusM plusS
  rcases s1 with _ | _ <;> rcases s2 with _ | _ <;> simp <;> (repeat' split) <;> first | omega | (simp; omega)
theorem not_split {z M : Int} {s : Bool} (h : z = if s = true then -M else M) : -z = if (!s) = true then -M else M := by
  subst h
  rcases s with _ | _ <;> simp
set_option maxHeartbeats 4000000 in
theorem radd_any (a b : F2) (ha : validF a = true) (hb : validF b = true) (w : World) : Calls Tryd.prog 21 #[.agg #[.int .i64 a.1, .int .i64 a.2], .agg #[.int .i64 b.1, .int .i64 b.2]] w fun e w' => e = .returned (.tuple #[.agg #[.int .i64 (addR a b).1.1, .int .i64 (addR a b).1.2], .int .i64 (addR a b).2]) ∧ Below w.heap.size w w' := by
  obtain ⟨p1, p2, p3, p4, _⟩ := (validF_iff a).1 ha
  obtain ⟨q1, q2, q3, q4, _⟩ := (validF_iff b).1 hb
  have ia := valid_In64 ha
  have ib := valid_In64 hb
  have m0 : 0 ≤ ((a.1.natAbs : Int) * (b.2.natAbs : Int)) := Int.mul_nonneg (by omega) (by omega)
  have m1 : ((a.1.natAbs : Int) * (b.2.natAbs : Int)) ≤ 1000000000000000000 * 1000000000000000000 := Int.mul_le_mul (by omega) (by omega) (by omega) (by omega)
  have d0 : 0 ≤ ((b.1.natAbs : Int) * (a.2.natAbs : Int)) := Int.mul_nonneg (by omega) (by omega)
  have d1 : ((b.1.natAbs : Int) * (a.2.natAbs : Int)) ≤ 1000000000000000000 * 1000000000000000000 := Int.mul_le_mul (by omega) (by omega) (by omega) (by omega)
  have e0 : 0 < ((a.2.natAbs : Int) * (b.2.natAbs : Int)) := Int.mul_pos (by omega) (by omega)
  have e1 : ((a.2.natAbs : Int) * (b.2.natAbs : Int)) ≤ 1000000000000000000 * 1000000000000000000 := Int.mul_le_mul (by omega) (by omega) (by omega) (by omega)
  have eD : ((a.2.natAbs : Int) * (b.2.natAbs : Int)) = a.2 * b.2 := by rw [show (a.2.natAbs : Int) = a.2 by omega, show (b.2.natAbs : Int) = b.2 by omega]
  obtain ⟨k1, k2⟩ := plus_math (sgn_split a.1 (show 0 < b.2 by omega)) (sgn_split b.1 (show 0 < a.2 by omega)) m0 d0
  have hP : 0 ≤ (plusM ((a.1.natAbs : Int) * (b.2.natAbs : Int)) (decide (a.1 < 0) != decide (b.2 < 0)) ((b.1.natAbs : Int) * (a.2.natAbs : Int)) (decide (b.1 < 0) != decide (a.2 < 0))) ∧ (plusM ((a.1.natAbs : Int) * (b.2.natAbs : Int)) (decide (a.1 < 0) != decide (b.2 < 0)) ((b.1.natAbs : Int) * (a.2.natAbs : Int)) (decide (b.1 < 0) != decide (a.2 < 0))) ≤ 2 * (1000000000000000000 * 1000000000000000000) := by
    unfold plusM
    (repeat' split) <;> omega
  have hE : lowR ((plusM ((a.1.natAbs : Int) * (b.2.natAbs : Int)) (decide (a.1 < 0) != decide (b.2 < 0)) ((b.1.natAbs : Int) * (a.2.natAbs : Int)) (decide (b.1 < 0) != decide (a.2 < 0))) / (Nat.gcd (((a.2.natAbs : Int) * (b.2.natAbs : Int))).natAbs ((plusM ((a.1.natAbs : Int) * (b.2.natAbs : Int)) (decide (a.1 < 0) != decide (b.2 < 0)) ((b.1.natAbs : Int) * (a.2.natAbs : Int)) (decide (b.1 < 0) != decide (a.2 < 0)))).natAbs : Nat)) (plusS ((a.1.natAbs : Int) * (b.2.natAbs : Int)) (decide (a.1 < 0) != decide (b.2 < 0)) ((b.1.natAbs : Int) * (a.2.natAbs : Int)) (decide (b.1 < 0) != decide (a.2 < 0))) (((a.2.natAbs : Int) * (b.2.natAbs : Int)) / (Nat.gcd (((a.2.natAbs : Int) * (b.2.natAbs : Int))).natAbs ((plusM ((a.1.natAbs : Int) * (b.2.natAbs : Int)) (decide (a.1 < 0) != decide (b.2 < 0)) ((b.1.natAbs : Int) * (a.2.natAbs : Int)) (decide (b.1 < 0) != decide (a.2 < 0)))).natAbs : Nat)) = addR a b := by
    rw [eD, k1, Int.natAbs_natCast, lowR_of (by rw [← eD]; exact e0) (g := Nat.gcd (a.2 * b.2).natAbs (a.1 * b.2 + b.1 * a.2).natAbs) rfl _ k2]
    unfold addR toQ
    rw [if_pos (by rw [ha, hb]; rfl)]
    congr 1
    rw [Rat.divInt_add_divInt _ _ (by omega) (by omega)]
  have T1 : Hid (∀ w, Calls Tryd.prog 54 #[.int .i64 a.1, .int .i64 b.2] w fun e w' => e = .returned (.agg #[.int .u64 (whi ((a.1.natAbs : Int) * (b.2.natAbs : Int))), .int .u64 (wlo ((a.1.natAbs : Int) * (b.2.natAbs : Int))), .bool (decide (a.1 < 0) != decide (b.2 < 0))]) ∧ Below w.heap.size w w') := Lib.hid fun w => rtimes_any a.1 b.2 ia.1 ib.2 w
  have T2 : Hid (∀ w, Calls Tryd.prog 54 #[.int .i64 b.1, .int .i64 a.2] w fun e w' => e = .returned (.agg #[.int .u64 (whi ((b.1.natAbs : Int) * (a.2.natAbs : Int))), .int .u64 (wlo ((b.1.natAbs : Int) * (a.2.natAbs : Int))), .bool (decide (b.1 < 0) != decide (a.2 < 0))]) ∧ Below w.heap.size w w') := Lib.hid fun w => rtimes_any b.1 a.2 ib.1 ia.2 w
  have T3 : Hid (∀ w, Calls Tryd.prog 54 #[.int .i64 a.2, .int .i64 b.2] w fun e w' => e = .returned (.agg #[.int .u64 (whi ((a.2.natAbs : Int) * (b.2.natAbs : Int))), .int .u64 (wlo ((a.2.natAbs : Int) * (b.2.natAbs : Int))), .bool false]) ∧ Below w.heap.size w w') := Lib.hid fun w => by have := rtimes_any a.2 b.2 ia.2 ib.2 w; rw [decide_eq_false (show ¬ a.2 < 0 by omega), decide_eq_false (show ¬ b.2 < 0 by omega)] at this; exact this
  have PL : Hid (∀ w, Calls Tryd.prog 53 #[.agg #[.int .u64 (whi ((a.1.natAbs : Int) * (b.2.natAbs : Int))), .int .u64 (wlo ((a.1.natAbs : Int) * (b.2.natAbs : Int))), .bool (decide (a.1 < 0) != decide (b.2 < 0))], .agg #[.int .u64 (whi ((b.1.natAbs : Int) * (a.2.natAbs : Int))), .int .u64 (wlo ((b.1.natAbs : Int) * (a.2.natAbs : Int))), .bool (decide (b.1 < 0) != decide (a.2 < 0))]] w fun e w' => e = .returned (.agg #[.int .u64 (whi (plusM ((a.1.natAbs : Int) * (b.2.natAbs : Int)) (decide (a.1 < 0) != decide (b.2 < 0)) ((b.1.natAbs : Int) * (a.2.natAbs : Int)) (decide (b.1 < 0) != decide (a.2 < 0)))), .int .u64 (wlo (plusM ((a.1.natAbs : Int) * (b.2.natAbs : Int)) (decide (a.1 < 0) != decide (b.2 < 0)) ((b.1.natAbs : Int) * (a.2.natAbs : Int)) (decide (b.1 < 0) != decide (a.2 < 0)))), .bool (plusS ((a.1.natAbs : Int) * (b.2.natAbs : Int)) (decide (a.1 < 0) != decide (b.2 < 0)) ((b.1.natAbs : Int) * (a.2.natAbs : Int)) (decide (b.1 < 0) != decide (a.2 < 0)))]) ∧ Below w.heap.size w w') := Lib.hid fun w => rplus_any ((a.1.natAbs : Int) * (b.2.natAbs : Int)) (decide (a.1 < 0) != decide (b.2 < 0)) ((b.1.natAbs : Int) * (a.2.natAbs : Int)) (decide (b.1 < 0) != decide (a.2 < 0)) ⟨m0, by omega⟩ ⟨d0, by omega⟩ w
  have CL : Hid (∀ w, Calls Tryd.prog 46 #[.agg #[.int .u64 (whi (plusM ((a.1.natAbs : Int) * (b.2.natAbs : Int)) (decide (a.1 < 0) != decide (b.2 < 0)) ((b.1.natAbs : Int) * (a.2.natAbs : Int)) (decide (b.1 < 0) != decide (a.2 < 0)))), .int .u64 (wlo (plusM ((a.1.natAbs : Int) * (b.2.natAbs : Int)) (decide (a.1 < 0) != decide (b.2 < 0)) ((b.1.natAbs : Int) * (a.2.natAbs : Int)) (decide (b.1 < 0) != decide (a.2 < 0)))), .bool (plusS ((a.1.natAbs : Int) * (b.2.natAbs : Int)) (decide (a.1 < 0) != decide (b.2 < 0)) ((b.1.natAbs : Int) * (a.2.natAbs : Int)) (decide (b.1 < 0) != decide (a.2 < 0)))], .agg #[.int .u64 (whi ((a.2.natAbs : Int) * (b.2.natAbs : Int))), .int .u64 (wlo ((a.2.natAbs : Int) * (b.2.natAbs : Int))), .bool false]] w fun e w' => e = .returned (.tuple #[.agg #[.int .i64 (addR a b).1.1, .int .i64 (addR a b).1.2], .int .i64 (addR a b).2]) ∧ Below w.heap.size w w') := Lib.hid fun w => by have := rlowest_any (plusM ((a.1.natAbs : Int) * (b.2.natAbs : Int)) (decide (a.1 < 0) != decide (b.2 < 0)) ((b.1.natAbs : Int) * (a.2.natAbs : Int)) (decide (b.1 < 0) != decide (a.2 < 0))) (plusS ((a.1.natAbs : Int) * (b.2.natAbs : Int)) (decide (a.1 < 0) != decide (b.2 < 0)) ((b.1.natAbs : Int) * (a.2.natAbs : Int)) (decide (b.1 < 0) != decide (a.2 < 0))) ((a.2.natAbs : Int) * (b.2.natAbs : Int)) false _ rfl hP.1 (by omega) e0 (by omega) w; rwa [hE] at this
  generalize addR a b = R at *
  clear hE hP k1 k2 eD p1 p2 p3 p4 q1 q2 q3 q4 ia ib m0 m1 d0 d1 e0 e1 ha hb
  generalize (plusM ((a.1.natAbs : Int) * (b.2.natAbs : Int)) (decide (a.1 < 0) != decide (b.2 < 0)) ((b.1.natAbs : Int) * (a.2.natAbs : Int)) (decide (b.1 < 0) != decide (a.2 < 0))) = p at *
  generalize (plusS ((a.1.natAbs : Int) * (b.2.natAbs : Int)) (decide (a.1 < 0) != decide (b.2 < 0)) ((b.1.natAbs : Int) * (a.2.natAbs : Int)) (decide (b.1 < 0) != decide (a.2 < 0))) = ps at *
  generalize (decide (a.1 < 0) != decide (b.2 < 0)) = s1 at *
  generalize (decide (b.1 < 0) != decide (a.2 < 0)) = s2 at *
  generalize whi p = p1 at *
  generalize wlo p = p2 at *
  generalize whi ((a.1.natAbs : Int) * (b.2.natAbs : Int)) = m1 at *
  generalize wlo ((a.1.natAbs : Int) * (b.2.natAbs : Int)) = m2 at *
  generalize whi ((b.1.natAbs : Int) * (a.2.natAbs : Int)) = n1 at *
  generalize wlo ((b.1.natAbs : Int) * (a.2.natAbs : Int)) = n2 at *
  generalize whi ((a.2.natAbs : Int) * (b.2.natAbs : Int)) = l1 at *
  generalize wlo ((a.2.natAbs : Int) * (b.2.natAbs : Int)) = l2 at *
  obtain ⟨a1, a2⟩ := a
  obtain ⟨b1, b2⟩ := b
  dsimp only at *
  go_enter Tryd.func21, Tryd.ntmps21
  go_wp2_with fail
  have KA := Lib.hid (((OwnC.new w #[.int .i64 a1, .int .i64 a2] 23).old (.cells #[.int .i64 b1, .int .i64 b2] 23)).old (.cells #[.int .i64 0, .int .i64 0] 23))
  have KB := Lib.hid ((OwnC.new2 w (.cells #[.int .i64 a1, .int .i64 a2] 23) #[.int .i64 b1, .int .i64 b2] 23).old (.cells #[.int .i64 0, .int .i64 0] 23))
  have KR := Lib.hid (OwnC.new3 w (.cells #[.int .i64 a1, .int .i64 a2] 23) (.cells #[.int .i64 b1, .int .i64 b2] 23) #[.int .i64 0, .int .i64 0] 23)
  have QW := bnew (bnew (bnew (Below.refl _ w) (.cells #[.int .i64 a1, .int .i64 a2] 23)) (.cells #[.int .i64 b1, .int .i64 b2] 23)) (.cells #[.int .i64 0, .int .i64 0] 23)
  generalize (((w.alloc (.cells #[.int .i64 a1, .int .i64 a2] 23)).alloc (.cells #[.int .i64 b1, .int .i64 b2] 23)).alloc (.cells #[.int .i64 0, .int .i64 0] 23)) = w3 at *
  have xA : w.heap.size ≠ w.heap.size + 1 + 1 := by omega
  have xB : w.heap.size + 1 ≠ w.heap.size + 1 + 1 := by omega
  have YA := KA
  have YB := KB
  go_region_held3 (fun w' => w'.cell? ⟨w.heap.size, 0, none⟩ = some (.int .i64 a1) ∧ w'.cell? ⟨w.heap.size, 1, none⟩ = some (.int .i64 a2) ∧ w'.cell? ⟨w.heap.size + 1, 0, none⟩ = some (.int .i64 b1) ∧ w'.cell? ⟨w.heap.size + 1, 1, none⟩ = some (.int .i64 b2) ∧ Bx (w.heap.size + 1 + 1) w3 w')
    ((refine mkX YA YB xA xB ?_; repeat' first | (with_reducible assumption) | (with_reducible exact Bx.refl _ _) | (with_reducible refine Bx.drew ?_) | (with_reducible refine Bx.set ?_)))
    ((first | (go_at_call 54; (with_reducible refine (T1.out _).mono ?_); rintro e w' ⟨rfl, hb⟩; have hx := Bx.call (getX (by assumption)) hb; (first | (have KA := Lib.hid (KA.out.below hb)) | (have KA := Lib.hid ((OwnC.drew KA.out).below hb))); (first | (have KB := Lib.hid (KB.out.below hb)) | (have KB := Lib.hid ((OwnC.drew KB.out).below hb))); (first | (have KR := Lib.hid (KR.out.below hb)) | (have KR := Lib.hid ((OwnC.drew KR.out).below hb))); (first | (have QW := bcall QW hb) | (have QW := bcall (Below.drew QW) hb)); clear hb; obtain ⟨⟨z00, z01⟩, ⟨z02, z03⟩, z04⟩ := KR.out.two) | (go_at_call 54; (with_reducible refine (T2.out _).mono ?_); rintro e w' ⟨rfl, hb⟩; have hx := Bx.call (getX (by assumption)) hb; (first | (have KA := Lib.hid (KA.out.below hb)) | (have KA := Lib.hid ((OwnC.drew KA.out).below hb))); (first | (have KB := Lib.hid (KB.out.below hb)) | (have KB := Lib.hid ((OwnC.drew KB.out).below hb))); (first | (have KR := Lib.hid (KR.out.below hb)) | (have KR := Lib.hid ((OwnC.drew KR.out).below hb))); (first | (have QW := bcall QW hb) | (have QW := bcall (Below.drew QW) hb)); clear hb; obtain ⟨⟨z00, z01⟩, ⟨z02, z03⟩, z04⟩ := KR.out.two) | (go_at_call 54; (with_reducible refine (T3.out _).mono ?_); rintro e w' ⟨rfl, hb⟩; have hx := Bx.call (getX (by assumption)) hb; (first | (have KA := Lib.hid (KA.out.below hb)) | (have KA := Lib.hid ((OwnC.drew KA.out).below hb))); (first | (have KB := Lib.hid (KB.out.below hb)) | (have KB := Lib.hid ((OwnC.drew KB.out).below hb))); (first | (have KR := Lib.hid (KR.out.below hb)) | (have KR := Lib.hid ((OwnC.drew KR.out).below hb))); (first | (have QW := bcall QW hb) | (have QW := bcall (Below.drew QW) hb)); clear hb; obtain ⟨⟨z00, z01⟩, ⟨z02, z03⟩, z04⟩ := KR.out.two) | (go_at_call 53; (with_reducible refine (PL.out _).mono ?_); rintro e w' ⟨rfl, hb⟩; have hx := Bx.call (getX (by assumption)) hb; (first | (have KA := Lib.hid (KA.out.below hb)) | (have KA := Lib.hid ((OwnC.drew KA.out).below hb))); (first | (have KB := Lib.hid (KB.out.below hb)) | (have KB := Lib.hid ((OwnC.drew KB.out).below hb))); (first | (have KR := Lib.hid (KR.out.below hb)) | (have KR := Lib.hid ((OwnC.drew KR.out).below hb))); (first | (have QW := bcall QW hb) | (have QW := bcall (Below.drew QW) hb)); clear hb; obtain ⟨⟨z00, z01⟩, ⟨z02, z03⟩, z04⟩ := KR.out.two) | (go_at_call 46; (with_reducible refine (CL.out _).mono ?_); rintro e w' ⟨rfl, hb⟩; have hx := Bx.call (getX (by assumption)) hb; (first | (have KA := Lib.hid (KA.out.below hb)) | (have KA := Lib.hid ((OwnC.drew KA.out).below hb))); (first | (have KB := Lib.hid (KB.out.below hb)) | (have KB := Lib.hid ((OwnC.drew KB.out).below hb))); (first | (have KR := Lib.hid (KR.out.below hb)) | (have KR := Lib.hid ((OwnC.drew KR.out).below hb))); (first | (have QW := bcall QW hb) | (have QW := bcall (Below.drew QW) hb)); clear hb; obtain ⟨⟨z00, z01⟩, ⟨z02, z03⟩, z04⟩ := KR.out.two)))
  all_goals go_wp2_with fail
  refine bodyPost_ret (v := .tuple #[.agg #[.int .i64 (R).1.1, .int .i64 (R).1.2], .int .i64 (R).2]) ?_ rfl ⟨rfl, ?_⟩
  · simp [results, Tryd.results21, go_sem, *]
  · have hBB := QW
    repeat' first | (with_reducible assumption) | (with_reducible exact Nat.le_refl _) | (with_reducible refine setB ?_ ?_) | (with_reducible refine Below.drew ?_) | (with_reducible refine bnew ?_ _) | omega
set_option maxHeartbeats 4000000 in
theorem rsub_any (a b : F2) (ha : validF a = true) (hb : validF b = true) (w : World) : Calls Tryd.prog 22 #[.agg #[.int .i64 a.1, .int .i64 a.2], .agg #[.int .i64 b.1, .int .i64 b.2]] w fun e w' => e = .returned (.tuple #[.agg #[.int .i64 (subR a b).1.1, .int .i64 (subR a b).1.2], .int .i64 (subR a b).2]) ∧ Below w.heap.size w w' := by
  obtain ⟨p1, p2, p3, p4, _⟩ := (validF_iff a).1 ha
  obtain ⟨q1, q2, q3, q4, _⟩ := (validF_iff b).1 hb
  have ia := valid_In64 ha
  have ib := valid_In64 hb
  have m0 : 0 ≤ ((a.1.natAbs : Int) * (b.2.natAbs : Int)) := Int.mul_nonneg (by omega) (by omega)
  have m1 : ((a.1.natAbs : Int) * (b.2.natAbs : Int)) ≤ 1000000000000000000 * 1000000000000000000 := Int.mul_le_mul (by omega) (by omega) (by omega) (by omega)
  have d0 : 0 ≤ ((b.1.natAbs : Int) * (a.2.natAbs : Int)) := Int.mul_nonneg (by omega) (by omega)
  have d1 : ((b.1.natAbs : Int) * (a.2.natAbs : Int)) ≤ 1000000000000000000 * 1000000000000000000 := Int.mul_le_mul (by omega) (by omega) (by omega) (by omega)
  have e0 : 0 < ((a.2.natAbs : Int) * (b.2.natAbs : Int)) := Int.mul_pos (by omega) (by omega)
  have e1 : ((a.2.natAbs : Int) * (b.2.natAbs : Int)) ≤ 1000000000000000000 * 1000000000000000000 := Int.mul_le_mul (by omega) (by omega) (by omega) (by omega)
  have eD : ((a.2.natAbs : Int) * (b.2.natAbs : Int)) = a.2 * b.2 := by rw [show (a.2.natAbs : Int) = a.2 by omega, show (b.2.natAbs : Int) = b.2 by omega]
  obtain ⟨k1, k2⟩ := plus_math (sgn_split a.1 (show 0 < b.2 by omega)) (not_split (sgn_split b.1 (show 0 < a.2 by omega))) m0 d0
  have hP : 0 ≤ (plusM ((a.1.natAbs : Int) * (b.2.natAbs : Int)) (decide (a.1 < 0) != decide (b.2 < 0)) ((b.1.natAbs : Int) * (a.2.natAbs : Int)) (!(decide (b.1 < 0) != decide (a.2 < 0)))) ∧ (plusM ((a.1.natAbs : Int) * (b.2.natAbs : Int)) (decide (a.1 < 0) != decide (b.2 < 0)) ((b.1.natAbs : Int) * (a.2.natAbs : Int)) (!(decide (b.1 < 0) != decide (a.2 < 0)))) ≤ 2 * (1000000000000000000 * 1000000000000000000) := by
    unfold plusM
    (repeat' split) <;> omega
  have hE : lowR ((plusM ((a.1.natAbs : Int) * (b.2.natAbs : Int)) (decide (a.1 < 0) != decide (b.2 < 0)) ((b.1.natAbs : Int) * (a.2.natAbs : Int)) (!(decide (b.1 < 0) != decide (a.2 < 0)))) / (Nat.gcd (((a.2.natAbs : Int) * (b.2.natAbs : Int))).natAbs ((plusM ((a.1.natAbs : Int) * (b.2.natAbs : Int)) (decide (a.1 < 0) != decide (b.2 < 0)) ((b.1.natAbs : Int) * (a.2.natAbs : Int)) (!(decide (b.1 < 0) != decide (a.2 < 0))))).natAbs : Nat)) (plusS ((a.1.natAbs : Int) * (b.2.natAbs : Int)) (decide (a.1 < 0) != decide (b.2 < 0)) ((b.1.natAbs : Int) * (a.2.natAbs : Int)) (!(decide (b.1 < 0) != decide (a.2 < 0)))) (((a.2.natAbs : Int) * (b.2.natAbs : Int)) / (Nat.gcd (((a.2.natAbs : Int) * (b.2.natAbs : Int))).natAbs ((plusM ((a.1.natAbs : Int) * (b.2.natAbs : Int)) (decide (a.1 < 0) != decide (b.2 < 0)) ((b.1.natAbs : Int) * (a.2.natAbs : Int)) (!(decide (b.1 < 0) != decide (a.2 < 0))))).natAbs : Nat)) = subR a b := by
    rw [eD, k1, Int.natAbs_natCast, lowR_of (by rw [← eD]; exact e0) (g := Nat.gcd (a.2 * b.2).natAbs (a.1 * b.2 + -(b.1 * a.2)).natAbs) rfl _ k2]
    unfold subR toQ
    rw [if_pos (by rw [ha, hb]; rfl)]
    congr 1
    rw [Rat.sub_eq_add_neg, Rat.neg_divInt, Rat.divInt_add_divInt _ _ (by omega) (by omega), Int.neg_mul]
  have T1 : Hid (∀ w, Calls Tryd.prog 54 #[.int .i64 a.1, .int .i64 b.2] w fun e w' => e = .returned (.agg #[.int .u64 (whi ((a.1.natAbs : Int) * (b.2.natAbs : Int))), .int .u64 (wlo ((a.1.natAbs : Int) * (b.2.natAbs : Int))), .bool (decide (a.1 < 0) != decide (b.2 < 0))]) ∧ Below w.heap.size w w') := Lib.hid fun w => rtimes_any a.1 b.2 ia.1 ib.2 w
  have T2 : Hid (∀ w, Calls Tryd.prog 54 #[.int .i64 b.1, .int .i64 a.2] w fun e w' => e = .returned (.agg #[.int .u64 (whi ((b.1.natAbs : Int) * (a.2.natAbs : Int))), .int .u64 (wlo ((b.1.natAbs : Int) * (a.2.natAbs : Int))), .bool (decide (b.1 < 0) != decide (a.2 < 0))]) ∧ Below w.heap.size w w') := Lib.hid fun w => rtimes_any b.1 a.2 ib.1 ia.2 w
  have T3 : Hid (∀ w, Calls Tryd.prog 54 #[.int .i64 a.2, .int .i64 b.2] w fun e w' => e = .returned (.agg #[.int .u64 (whi ((a.2.natAbs : Int) * (b.2.natAbs : Int))), .int .u64 (wlo ((a.2.natAbs : Int) * (b.2.natAbs : Int))), .bool false]) ∧ Below w.heap.size w w') := Lib.hid fun w => by have := rtimes_any a.2 b.2 ia.2 ib.2 w; rw [decide_eq_false (show ¬ a.2 < 0 by omega), decide_eq_false (show ¬ b.2 < 0 by omega)] at this; exact this
  have MI : Hid (∀ w, Calls Tryd.prog 55 #[.agg #[.int .u64 (whi ((b.1.natAbs : Int) * (a.2.natAbs : Int))), .int .u64 (wlo ((b.1.natAbs : Int) * (a.2.natAbs : Int))), .bool (decide (b.1 < 0) != decide (a.2 < 0))]] w fun e w' => e = .returned (.agg #[.int .u64 (whi ((b.1.natAbs : Int) * (a.2.natAbs : Int))), .int .u64 (wlo ((b.1.natAbs : Int) * (a.2.natAbs : Int))), .bool (!(decide (b.1 < 0) != decide (a.2 < 0)))]) ∧ Below w.heap.size w w') := Lib.hid fun w => rminus_any ((b.1.natAbs : Int) * (a.2.natAbs : Int)) (decide (b.1 < 0) != decide (a.2 < 0)) w
  have PL : Hid (∀ w, Calls Tryd.prog 53 #[.agg #[.int .u64 (whi ((a.1.natAbs : Int) * (b.2.natAbs : Int))), .int .u64 (wlo ((a.1.natAbs : Int) * (b.2.natAbs : Int))), .bool (decide (a.1 < 0) != decide (b.2 < 0))], .agg #[.int .u64 (whi ((b.1.natAbs : Int) * (a.2.natAbs : Int))), .int .u64 (wlo ((b.1.natAbs : Int) * (a.2.natAbs : Int))), .bool (!(decide (b.1 < 0) != decide (a.2 < 0)))]] w fun e w' => e = .returned (.agg #[.int .u64 (whi (plusM ((a.1.natAbs : Int) * (b.2.natAbs : Int)) (decide (a.1 < 0) != decide (b.2 < 0)) ((b.1.natAbs : Int) * (a.2.natAbs : Int)) (!(decide (b.1 < 0) != decide (a.2 < 0))))), .int .u64 (wlo (plusM ((a.1.natAbs : Int) * (b.2.natAbs : Int)) (decide (a.1 < 0) != decide (b.2 < 0)) ((b.1.natAbs : Int) * (a.2.natAbs : Int)) (!(decide (b.1 < 0) != decide (a.2 < 0))))), .bool (plusS ((a.1.natAbs : Int) * (b.2.natAbs : Int)) (decide (a.1 < 0) != decide (b.2 < 0)) ((b.1.natAbs : Int) * (a.2.natAbs : Int)) (!(decide (b.1 < 0) != decide (a.2 < 0))))]) ∧ Below w.heap.size w w') := Lib.hid fun w => rplus_any ((a.1.natAbs : Int) * (b.2.natAbs : Int)) (decide (a.1 < 0) != decide (b.2 < 0)) ((b.1.natAbs : Int) * (a.2.natAbs : Int)) (!(decide (b.1 < 0) != decide (a.2 < 0))) ⟨m0, by omega⟩ ⟨d0, by omega⟩ w
  have CL : Hid (∀ w, Calls Tryd.prog 46 #[.agg #[.int .u64 (whi (plusM ((a.1.natAbs : Int) * (b.2.natAbs : Int)) (decide (a.1 < 0) != decide (b.2 < 0)) ((b.1.natAbs : Int) * (a.2.natAbs : Int)) (!(decide (b.1 < 0) != decide (a.2 < 0))))), .int .u64 (wlo (plusM ((a.1.natAbs : Int) * (b.2.natAbs : Int)) (decide (a.1 < 0) != decide (b.2 < 0)) ((b.1.natAbs : Int) * (a.2.natAbs : Int)) (!(decide (b.1 < 0) != decide (a.2 < 0))))), .bool (plusS ((a.1.natAbs : Int) * (b.2.natAbs : Int)) (decide (a.1 < 0) != decide (b.2 < 0)) ((b.1.natAbs : Int) * (a.2.natAbs : Int)) (!(decide (b.1 < 0) != decide (a.2 < 0))))], .agg #[.int .u64 (whi ((a.2.natAbs : Int) * (b.2.natAbs : Int))), .int .u64 (wlo ((a.2.natAbs : Int) * (b.2.natAbs : Int))), .bool false]] w fun e w' => e = .returned (.tuple #[.agg #[.int .i64 (subR a b).1.1, .int .i64 (subR a b).1.2], .int .i64 (subR a b).2]) ∧ Below w.heap.size w w') := Lib.hid fun w => by have := rlowest_any (plusM ((a.1.natAbs : Int) * (b.2.natAbs : Int)) (decide (a.1 < 0) != decide (b.2 < 0)) ((b.1.natAbs : Int) * (a.2.natAbs : Int)) (!(decide (b.1 < 0) != decide (a.2 < 0)))) (plusS ((a.1.natAbs : Int) * (b.2.natAbs : Int)) (decide (a.1 < 0) != decide (b.2 < 0)) ((b.1.natAbs : Int) * (a.2.natAbs : Int)) (!(decide (b.1 < 0) != decide (a.2 < 0)))) ((a.2.natAbs : Int) * (b.2.natAbs : Int)) false _ rfl hP.1 (by omega) e0 (by omega) w; rwa [hE] at this
  generalize subR a b = R at *
  clear hE hP k1 k2 eD p1 p2 p3 p4 q1 q2 q3 q4 ia ib m0 m1 d0 d1 e0 e1 ha hb
  generalize (plusM ((a.1.natAbs : Int) * (b.2.natAbs : Int)) (decide (a.1 < 0) != decide (b.2 < 0)) ((b.1.natAbs : Int) * (a.2.natAbs : Int)) (!(decide (b.1 < 0) != decide (a.2 < 0)))) = p at *
  generalize (plusS ((a.1.natAbs : Int) * (b.2.natAbs : Int)) (decide (a.1 < 0) != decide (b.2 < 0)) ((b.1.natAbs : Int) * (a.2.natAbs : Int)) (!(decide (b.1 < 0) != decide (a.2 < 0)))) = ps at *
  generalize (decide (a.1 < 0) != decide (b.2 < 0)) = s1 at *
  generalize (decide (b.1 < 0) != decide (a.2 < 0)) = s2 at *
  generalize (!s2) = s3 at *
  generalize whi p = p1 at *
  generalize wlo p = p2 at *
  generalize whi ((a.1.natAbs : Int) * (b.2.natAbs : Int)) = m1 at *
  generalize wlo ((a.1.natAbs : Int) * (b.2.natAbs : Int)) = m2 at *
  generalize whi ((b.1.natAbs : Int) * (a.2.natAbs : Int)) = n1 at *
  generalize wlo ((b.1.natAbs : Int) * (a.2.natAbs : Int)) = n2 at *
  generalize whi ((a.2.natAbs : Int) * (b.2.natAbs : Int)) = l1 at *
  generalize wlo ((a.2.natAbs : Int) * (b.2.natAbs : Int)) = l2 at *
  obtain ⟨a1, a2⟩ := a
  obtain ⟨b1, b2⟩ := b
  dsimp only at *
  go_enter Tryd.func22, Tryd.ntmps22
  go_wp2_with fail
  have KA := Lib.hid (((OwnC.new w #[.int .i64 a1, .int .i64 a2] 23).old (.cells #[.int .i64 b1, .int .i64 b2] 23)).old (.cells #[.int .i64 0, .int .i64 0] 23))
  have KB := Lib.hid ((OwnC.new2 w (.cells #[.int .i64 a1, .int .i64 a2] 23) #[.int .i64 b1, .int .i64 b2] 23).old (.cells #[.int .i64 0, .int .i64 0] 23))
  have KR := Lib.hid (OwnC.new3 w (.cells #[.int .i64 a1, .int .i64 a2] 23) (.cells #[.int .i64 b1, .int .i64 b2] 23) #[.int .i64 0, .int .i64 0] 23)
  have QW := bnew (bnew (bnew (Below.refl _ w) (.cells #[.int .i64 a1, .int .i64 a2] 23)) (.cells #[.int .i64 b1, .int .i64 b2] 23)) (.cells #[.int .i64 0, .int .i64 0] 23)
  generalize (((w.alloc (.cells #[.int .i64 a1, .int .i64 a2] 23)).alloc (.cells #[.int .i64 b1, .int .i64 b2] 23)).alloc (.cells #[.int .i64 0, .int .i64 0] 23)) = w3 at *
  have xA : w.heap.size ≠ w.heap.size + 1 + 1 := by omega
  have xB : w.heap.size + 1 ≠ w.heap.size + 1 + 1 := by omega
  have YA := KA
  have YB := KB
  go_region_held3 (fun w' => w'.cell? ⟨w.heap.size, 0, none⟩ = some (.int .i64 a1) ∧ w'.cell? ⟨w.heap.size, 1, none⟩ = some (.int .i64 a2) ∧ w'.cell? ⟨w.heap.size + 1, 0, none⟩ = some (.int .i64 b1) ∧ w'.cell? ⟨w.heap.size + 1, 1, none⟩ = some (.int .i64 b2) ∧ Bx (w.heap.size + 1 + 1) w3 w')
    ((refine mkX YA YB xA xB ?_; repeat' first | (with_reducible assumption) | (with_reducible exact Bx.refl _ _) | (with_reducible refine Bx.drew ?_) | (with_reducible refine Bx.set ?_)))
    ((first | (go_at_call 54; (with_reducible refine (T1.out _).mono ?_); rintro e w' ⟨rfl, hb⟩; have hx := Bx.call (getX (by assumption)) hb; (first | (have KA := Lib.hid (KA.out.below hb)) | (have KA := Lib.hid ((OwnC.drew KA.out).below hb))); (first | (have KB := Lib.hid (KB.out.below hb)) | (have KB := Lib.hid ((OwnC.drew KB.out).below hb))); (first | (have KR := Lib.hid (KR.out.below hb)) | (have KR := Lib.hid ((OwnC.drew KR.out).below hb))); (first | (have QW := bcall QW hb) | (have QW := bcall (Below.drew QW) hb)); clear hb; obtain ⟨⟨z00, z01⟩, ⟨z02, z03⟩, z04⟩ := KR.out.two) | (go_at_call 54; (with_reducible refine (T2.out _).mono ?_); rintro e w' ⟨rfl, hb⟩; have hx := Bx.call (getX (by assumption)) hb; (first | (have KA := Lib.hid (KA.out.below hb)) | (have KA := Lib.hid ((OwnC.drew KA.out).below hb))); (first | (have KB := Lib.hid (KB.out.below hb)) | (have KB := Lib.hid ((OwnC.drew KB.out).below hb))); (first | (have KR := Lib.hid (KR.out.below hb)) | (have KR := Lib.hid ((OwnC.drew KR.out).below hb))); (first | (have QW := bcall QW hb) | (have QW := bcall (Below.drew QW) hb)); clear hb; obtain ⟨⟨z00, z01⟩, ⟨z02, z03⟩, z04⟩ := KR.out.two) | (go_at_call 54; (with_reducible refine (T3.out _).mono ?_); rintro e w' ⟨rfl, hb⟩; have hx := Bx.call (getX (by assumption)) hb; (first | (have KA := Lib.hid (KA.out.below hb)) | (have KA := Lib.hid ((OwnC.drew KA.out).below hb))); (first | (have KB := Lib.hid (KB.out.below hb)) | (have KB := Lib.hid ((OwnC.drew KB.out).below hb))); (first | (have KR := Lib.hid (KR.out.below hb)) | (have KR := Lib.hid ((OwnC.drew KR.out).below hb))); (first | (have QW := bcall QW hb) | (have QW := bcall (Below.drew QW) hb)); clear hb; obtain ⟨⟨z00, z01⟩, ⟨z02, z03⟩, z04⟩ := KR.out.two) | (go_at_call 55; (with_reducible refine (MI.out _).mono ?_); rintro e w' ⟨rfl, hb⟩; have hx := Bx.call (getX (by assumption)) hb; (first | (have KA := Lib.hid (KA.out.below hb)) | (have KA := Lib.hid ((OwnC.drew KA.out).below hb))); (first | (have KB := Lib.hid (KB.out.below hb)) | (have KB := Lib.hid ((OwnC.drew KB.out).below hb))); (first | (have KR := Lib.hid (KR.out.below hb)) | (have KR := Lib.hid ((OwnC.drew KR.out).below hb))); (first | (have QW := bcall QW hb) | (have QW := bcall (Below.drew QW) hb)); clear hb; obtain ⟨⟨z00, z01⟩, ⟨z02, z03⟩, z04⟩ := KR.out.two) | (go_at_call 53; (with_reducible refine (PL.out _).mono ?_); rintro e w' ⟨rfl, hb⟩; have hx := Bx.call (getX (by assumption)) hb; (first | (have KA := Lib.hid (KA.out.below hb)) | (have KA := Lib.hid ((OwnC.drew KA.out).below hb))); (first | (have KB := Lib.hid (KB.out.below hb)) | (have KB := Lib.hid ((OwnC.drew KB.out).below hb))); (first | (have KR := Lib.hid (KR.out.below hb)) | (have KR := Lib.hid ((OwnC.drew KR.out).below hb))); (first | (have QW := bcall QW hb) | (have QW := bcall (Below.drew QW) hb)); clear hb; obtain ⟨⟨z00, z01⟩, ⟨z02, z03⟩, z04⟩ := KR.out.two) | (go_at_call 46; (with_reducible refine (CL.out _).mono ?_); rintro e w' ⟨rfl, hb⟩; have hx := Bx.call (getX (by assumption)) hb; (first | (have KA := Lib.hid (KA.out.below hb)) | (have KA := Lib.hid ((OwnC.drew KA.out).below hb))); (first | (have KB := Lib.hid (KB.out.below hb)) | (have KB := Lib.hid ((OwnC.drew KB.out).below hb))); (first | (have KR := Lib.hid (KR.out.below hb)) | (have KR := Lib.hid ((OwnC.drew KR.out).below hb))); (first | (have QW := bcall QW hb) | (have QW := bcall (Below.drew QW) hb)); clear hb; obtain ⟨⟨z00, z01⟩, ⟨z02, z03⟩, z04⟩ := KR.out.two)))
  all_goals go_wp2_with fail
  refine bodyPost_ret (v := .tuple #[.agg #[.int .i64 (R).1.1, .int .i64 (R).1.2], .int .i64 (R).2]) ?_ rfl ⟨rfl, ?_⟩
  · simp [results, Tryd.results22, go_sem, *]
  · have hBB := QW
    repeat' first | (with_reducible assumption) | (with_reducible exact Nat.le_refl _) | (with_reducible refine setB ?_ ?_) | (with_reducible refine Below.drew ?_) | (with_reducible refine bnew ?_ _) | omega
end Go.Proofs.YtinnlahmlepeeaaDoor
