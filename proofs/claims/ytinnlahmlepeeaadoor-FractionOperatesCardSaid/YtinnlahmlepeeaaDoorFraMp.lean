/- The reference's Mul, Power. -/
import Derived.Test.YtinnlahmlepeeaaDoorFraW
import Derived.Test.YtinnlahmlepeeaaDoorFraK
import Derived.RegionTactic
import Derived.Deep.RegionHeld3
namespace Go.Proofs.YtinnlahmlepeeaaDoor
open Go.RowKit
theorem sgn_mul (x y : Int) : (x * y < 0 → (decide (x < 0) != decide (y < 0)) = true) ∧ (0 < x * y → (decide (x < 0) != decide (y < 0)) = false) := by
  constructor
  · intro h
    rcases Int.lt_or_le x 0 with hx | hx
    · rcases Int.lt_or_le y 0 with hy | hy
      · exact absurd (Int.mul_pos_of_neg_of_neg hx hy) (by omega)
      · rw [decide_eq_true hx, decide_eq_false (show ¬ y < 0 by omega)]; rfl
    · rcases Int.lt_or_le y 0 with hy | hy
      · rw [decide_eq_true hy, decide_eq_false (show ¬ x < 0 by omega)]; rfl
      · exact absurd (Int.mul_nonneg hx hy) (by omega)
  · intro h
    rcases Int.lt_or_le x 0 with hx | hx
    · rcases Int.lt_or_le y 0 with hy | hy
      · rw [decide_eq_true hx, decide_eq_true hy]; rfl
      · exact absurd (Int.mul_nonneg_of_nonpos_of_nonpos (show x ≤ 0 by omega) (show -y ≤ 0 by omega)) (by rw [Int.mul_neg]; omega)
    · rcases Int.lt_or_le y 0 with hy | hy
      · exact absurd (Int.mul_nonneg hx (show 0 ≤ -y by omega)) (by rw [Int.mul_neg]; omega)
      · rw [decide_eq_false (show ¬ x < 0 by omega), decide_eq_false (show ¬ y < 0 by omega)]; rfl
theorem low_mul {a b : F2} (ha : validF a = true) (hb : validF b = true) :
    lowR (((a.1.natAbs : Int) * (b.1.natAbs : Int)) / (Nat.gcd ((a.2.natAbs : Int) * (b.2.natAbs : Int)).natAbs ((a.1.natAbs : Int) * (b.1.natAbs : Int)).natAbs : Nat)) (decide (a.1 < 0) != decide (b.1 < 0)) (((a.2.natAbs : Int) * (b.2.natAbs : Int)) / (Nat.gcd ((a.2.natAbs : Int) * (b.2.natAbs : Int)).natAbs ((a.1.natAbs : Int) * (b.1.natAbs : Int)).natAbs : Nat)) = mulR a b := by
  obtain ⟨p1, _⟩ := (validF_iff a).1 ha
  obtain ⟨q1, _⟩ := (validF_iff b).1 hb
  have hy : 0 < a.2 * b.2 := Int.mul_pos (by omega) (by omega)
  have e1 : (a.1.natAbs : Int) * (b.1.natAbs : Int) = ((a.1 * b.1).natAbs : Int) := by rw [Int.natAbs_mul]; omega
  have e2 : (a.2.natAbs : Int) * (b.2.natAbs : Int) = a.2 * b.2 := by rw [show (a.2.natAbs : Int) = a.2 by omega, show (b.2.natAbs : Int) = b.2 by omega]
  rw [e1, e2, Int.natAbs_natCast, lowR_of hy (g := Nat.gcd (a.2 * b.2).natAbs (a.1 * b.1).natAbs) rfl _ (sgn_mul a.1 b.1)]
  unfold mulR toQ
  rw [if_pos (by rw [ha, hb]; rfl), Rat.divInt_mul_divInt]
set_option maxHeartbeats 4000000 in
theorem rmul_any (a b : F2) (ha : validF a = true) (hb : validF b = true) (w : World) : Calls Tryd.prog 23 #[.agg #[.int .i64 a.1, .int .i64 a.2], .agg #[.int .i64 b.1, .int .i64 b.2]] w fun e w' => e = .returned (.tuple #[.agg #[.int .i64 (mulR a b).1.1, .int .i64 (mulR a b).1.2], .int .i64 (mulR a b).2]) ∧ Below w.heap.size w w' := by
  obtain ⟨p1, p2, p3, p4, _⟩ := (validF_iff a).1 ha
  obtain ⟨q1, q2, q3, q4, _⟩ := (validF_iff b).1 hb
  have ia := valid_In64 ha
  have ib := valid_In64 hb
  have m0 : 0 ≤ (a.1.natAbs : Int) * (b.1.natAbs : Int) := Int.mul_nonneg (by omega) (by omega)
  have m1 : (a.1.natAbs : Int) * (b.1.natAbs : Int) ≤ 1000000000000000000 * 1000000000000000000 := Int.mul_le_mul (by omega) (by omega) (by omega) (by omega)
  have d0 : 0 < (a.2.natAbs : Int) * (b.2.natAbs : Int) := Int.mul_pos (by omega) (by omega)
  have d1 : (a.2.natAbs : Int) * (b.2.natAbs : Int) ≤ 1000000000000000000 * 1000000000000000000 := Int.mul_le_mul (by omega) (by omega) (by omega) (by omega)
  have C1 : Hid (∀ w, Calls Tryd.prog 54 #[.int .i64 a.1, .int .i64 b.1] w fun e w' => e = .returned (.agg #[.int .u64 (whi ((a.1.natAbs : Int) * (b.1.natAbs : Int))), .int .u64 (wlo ((a.1.natAbs : Int) * (b.1.natAbs : Int))), .bool (decide (a.1 < 0) != decide (b.1 < 0))]) ∧ Below w.heap.size w w') := Lib.hid fun w => rtimes_any a.1 b.1 ia.1 ib.1 w
  have C2 : Hid (∀ w, Calls Tryd.prog 54 #[.int .i64 a.2, .int .i64 b.2] w fun e w' => e = .returned (.agg #[.int .u64 (whi ((a.2.natAbs : Int) * (b.2.natAbs : Int))), .int .u64 (wlo ((a.2.natAbs : Int) * (b.2.natAbs : Int))), .bool false]) ∧ Below w.heap.size w w') := Lib.hid fun w => by have := rtimes_any a.2 b.2 ia.2 ib.2 w; rw [decide_eq_false (show ¬ a.2 < 0 by omega), decide_eq_false (show ¬ b.2 < 0 by omega)] at this; exact this
  have CL : Hid (∀ w, Calls Tryd.prog 46 #[.agg #[.int .u64 (whi ((a.1.natAbs : Int) * (b.1.natAbs : Int))), .int .u64 (wlo ((a.1.natAbs : Int) * (b.1.natAbs : Int))), .bool (decide (a.1 < 0) != decide (b.1 < 0))], .agg #[.int .u64 (whi ((a.2.natAbs : Int) * (b.2.natAbs : Int))), .int .u64 (wlo ((a.2.natAbs : Int) * (b.2.natAbs : Int))), .bool false]] w fun e w' => e = .returned (.tuple #[.agg #[.int .i64 (mulR a b).1.1, .int .i64 (mulR a b).1.2], .int .i64 (mulR a b).2]) ∧ Below w.heap.size w w') := Lib.hid fun w => by have := rlowest_any ((a.1.natAbs : Int) * (b.1.natAbs : Int)) (decide (a.1 < 0) != decide (b.1 < 0)) ((a.2.natAbs : Int) * (b.2.natAbs : Int)) false _ rfl m0 (by omega) d0 (by omega) w; rwa [low_mul ha hb] at this
  generalize mulR a b = R at *
  clear p1 p2 p3 p4 q1 q2 q3 q4 ia ib m0 m1 d0 d1 ha hb
  generalize (decide (a.1 < 0) != decide (b.1 < 0)) = s at *
  generalize whi ((a.1.natAbs : Int) * (b.1.natAbs : Int)) = n1 at *
  generalize wlo ((a.1.natAbs : Int) * (b.1.natAbs : Int)) = n2 at *
  generalize whi ((a.2.natAbs : Int) * (b.2.natAbs : Int)) = m1 at *
  generalize wlo ((a.2.natAbs : Int) * (b.2.natAbs : Int)) = m2 at *
  obtain ⟨a1, a2⟩ := a
  obtain ⟨b1, b2⟩ := b
  dsimp only at *
  go_enter Tryd.func23, Tryd.ntmps23
  go_wp2_with fail
  have KA := Lib.hid (((OwnC.new w #[.int .i64 a1, .int .i64 a2] 23).old (.cells #[.int .i64 b1, .int .i64 b2] 23)).old (.cells #[.int .i64 0, .int .i64 0] 23))
  have KB := Lib.hid ((OwnC.new2 w (.cells #[.int .i64 a1, .int .i64 a2] 23) #[.int .i64 b1, .int .i64 b2] 23).old (.cells #[.int .i64 0, .int .i64 0] 23))
  have KR := Lib.hid (OwnC.new3 w (.cells #[.int .i64 a1, .int .i64 a2] 23) (.cells #[.int .i64 b1, .int .i64 b2] 23) #[.int .i64 0, .int .i64 0] 23)
  have QW := bnew (bnew (bnew (Below.refl _ w) (.cells #[.int .i64 a1, .int .i64 a2] 23)) (.cells #[.int .i64 b1, .int .i64 b2] 23)) (.cells #[.int .i64 0, .int .i64 0] 23)
  generalize (((w.alloc (.cells #[.int .i64 a1, .int .i64 a2] 23)).alloc (.cells #[.int .i64 b1, .int .i64 b2] 23)).alloc (.cells #[.int .i64 0, .int .i64 0] 23)) = w3 at *
  have xA : w.heap.size ≠ w.heap.size + 1 + 1 := by omega
  have xB : w.heap.size + 1 ≠ w.heap.size + 1 + 1 := by omega
  have YA := KA
  have YB := KB
  go_region_held3 (fun w' => w'.cell? ⟨w.heap.size, 0, none⟩ = some (.int .i64 a1) ∧ w'.cell? ⟨w.heap.size, 1, none⟩ = some (.int .i64 a2) ∧ w'.cell? ⟨w.heap.size + 1, 0, none⟩ = some (.int .i64 b1) ∧ w'.cell? ⟨w.heap.size + 1, 1, none⟩ = some (.int .i64 b2) ∧ Bx (w.heap.size + 1 + 1) w3 w')
    ((refine mkX YA YB xA xB ?_; repeat' first | (with_reducible assumption) | (with_reducible exact Bx.refl _ _) | (with_reducible refine Bx.drew ?_) | (with_reducible refine Bx.set ?_)))
    ((first | (go_at_call 54; (with_reducible refine (C1.out _).mono ?_); rintro e w' ⟨rfl, hb⟩; have hx := Bx.call (getX (by assumption)) hb; (first | (have KA := Lib.hid (KA.out.below hb)) | (have KA := Lib.hid ((OwnC.drew KA.out).below hb))); (first | (have KB := Lib.hid (KB.out.below hb)) | (have KB := Lib.hid ((OwnC.drew KB.out).below hb))); (first | (have KR := Lib.hid (KR.out.below hb)) | (have KR := Lib.hid ((OwnC.drew KR.out).below hb))); (first | (have QW := bcall QW hb) | (have QW := bcall (Below.drew QW) hb)); clear hb; obtain ⟨⟨z00, z01⟩, ⟨z02, z03⟩, z04⟩ := KR.out.two) | (go_at_call 54; (with_reducible refine (C2.out _).mono ?_); rintro e w' ⟨rfl, hb⟩; have hx := Bx.call (getX (by assumption)) hb; (first | (have KA := Lib.hid (KA.out.below hb)) | (have KA := Lib.hid ((OwnC.drew KA.out).below hb))); (first | (have KB := Lib.hid (KB.out.below hb)) | (have KB := Lib.hid ((OwnC.drew KB.out).below hb))); (first | (have KR := Lib.hid (KR.out.below hb)) | (have KR := Lib.hid ((OwnC.drew KR.out).below hb))); (first | (have QW := bcall QW hb) | (have QW := bcall (Below.drew QW) hb)); clear hb; obtain ⟨⟨z00, z01⟩, ⟨z02, z03⟩, z04⟩ := KR.out.two) | (go_at_call 46; (with_reducible refine (CL.out _).mono ?_); rintro e w' ⟨rfl, hb⟩; have hx := Bx.call (getX (by assumption)) hb; (first | (have KA := Lib.hid (KA.out.below hb)) | (have KA := Lib.hid ((OwnC.drew KA.out).below hb))); (first | (have KB := Lib.hid (KB.out.below hb)) | (have KB := Lib.hid ((OwnC.drew KB.out).below hb))); (first | (have KR := Lib.hid (KR.out.below hb)) | (have KR := Lib.hid ((OwnC.drew KR.out).below hb))); (first | (have QW := bcall QW hb) | (have QW := bcall (Below.drew QW) hb)); clear hb; obtain ⟨⟨z00, z01⟩, ⟨z02, z03⟩, z04⟩ := KR.out.two)))
  all_goals go_wp2_with fail
  refine bodyPost_ret (v := .tuple #[.agg #[.int .i64 (R).1.1, .int .i64 (R).1.2], .int .i64 (R).2]) ?_ rfl ⟨rfl, ?_⟩
  · simp [results, Tryd.results23, go_sem, *]
  · have hBB := QW
    repeat' first | (with_reducible assumption) | (with_reducible exact Nat.le_refl _) | (with_reducible refine setB ?_ ?_) | (with_reducible refine Below.drew ?_) | (with_reducible refine bnew ?_ _) | omega
set_option maxHeartbeats 2000000 in
theorem rpower_any (a : F2) (N : Nat) (ha : validF a = true) (hN : N ≤ 64) (w : World) : Calls Tryd.prog 26 #[.agg #[.int .i64 a.1, .int .i64 a.2], .int .i64 (N : Int)] w fun e w' =>
    e = .returned (.tuple #[.agg #[.int .i64 (powI N a).1.1, .int .i64 (powI N a).1.2], .int .i64 (powI N a).2]) ∧ Below w.heap.size w w' := by
  have PC := Lib.hid (powI_cases ha)
  have PE : Hid (∀ k, powI k a = ((0, 0), 6) → ∀ j, powI (k + j) a = ((0, 0), 6)) := Lib.hid fun k h j => powI_err h j
  have CM : Hid (∀ k, (powI k a).2 = 0 → ∀ w, Calls Tryd.prog 23 #[.agg #[.int .i64 (powI k a).1.1, .int .i64 (powI k a).1.2], .agg #[.int .i64 a.1, .int .i64 a.2]] w fun e w' => e = .returned (.tuple #[.agg #[.int .i64 (powI (k + 1) a).1.1, .int .i64 (powI (k + 1) a).1.2], .int .i64 (powI (k + 1) a).2]) ∧ Below w.heap.size w w') := Lib.hid fun k hk w => by
    have hv := (powI_cases ha k).resolve_right (fun e => by rw [e] at hk; cases hk)
    have := rmul_any (powI k a).1 a hv.2 ha w
    have e : powI (k + 1) a = mulR (powI k a).1 a := by
      show (if (powI k a).2 = 0 then mulR (powI k a).1 a else ((0, 0), (powI k a).2)) = _
      rw [if_pos hk]
    rwa [← e] at this
  clear ha
  go_enter Tryd.func26, Tryd.ntmps26
  go_wp2_with fail
  have HA := Lib.hid (((OwnC.new w #[.int .i64 a.1, .int .i64 a.2] 23).old (.cells #[.int .i64 0, .int .i64 0] 23)).old (.cells #[.int .i64 1, .int .i64 1] 23))
  have HR := Lib.hid ((OwnC.new2 w (.cells #[.int .i64 a.1, .int .i64 a.2] 23) #[.int .i64 0, .int .i64 0] 23).old (.cells #[.int .i64 1, .int .i64 1] 23))
  have HM := Lib.hid (OwnC.new3 w (.cells #[.int .i64 a.1, .int .i64 a.2] 23) (.cells #[.int .i64 0, .int .i64 0] 23) #[.int .i64 1, .int .i64 1] 23)
  have HB := bnew (bnew (bnew (Below.refl _ w) (.cells #[.int .i64 a.1, .int .i64 a.2] 23)) (.cells #[.int .i64 0, .int .i64 0] 23)) (.cells #[.int .i64 1, .int .i64 1] 23)
  generalize (((w.alloc (.cells #[.int .i64 a.1, .int .i64 a.2] 23)).alloc (.cells #[.int .i64 0, .int .i64 0] 23)).alloc (.cells #[.int .i64 1, .int .i64 1] 23)) = w3 at *
  have ma : w.heap.size + 1 + 1 ≠ w.heap.size := by omega
  have mr : w.heap.size + 1 + 1 ≠ w.heap.size + 1 := by omega
  go_loopw [7] (fun x wr => ∃ i : Nat, i ≤ N ∧ x = .int .i64 (i : Int) ∧ (powI i a).2 = 0 ∧ OwnC wr (w.heap.size + 1 + 1) #[.int .i64 (powI i a).1.1, .int .i64 (powI i a).1.2] ∧ OwnC wr w.heap.size #[.int .i64 a.1, .int .i64 a.2] ∧ OwnC wr (w.heap.size + 1) #[.int .i64 0, .int .i64 0] ∧ Below w.heap.size w wr) (fun x _ => (N - intOf x).toNat)
  case atStart => exact ⟨0, Nat.zero_le _, rfl, rfl, HM.out, HA.out, HR.out, HB⟩
  case round =>
    obtain ⟨i, hi, rfl, h0, QM, QA, QR, QB⟩ := hrel
    have KM := Lib.hid QM
    have KA := Lib.hid QA
    have KR := Lib.hid QR
    have H0 := Lib.hid h0
    clear QM QA QR h0
    by_cases hlast : i = N
    · have dl : decide ((i : Int) < (N : Int)) = false := by simp; omega
      obtain ⟨⟨c0, c1⟩, ⟨c2, c3⟩, c4⟩ := KM.out.two
      obtain ⟨⟨r0, r1⟩, ⟨r2, r3⟩, r4⟩ := KR.out.two
      have dn : decide (i < N) = false := by simp; omega
      subst hlast
      go_wp2_with fail
      refine bodyPost_ret (v := .tuple #[.agg #[.int .i64 (powI i a).1.1, .int .i64 (powI i a).1.2], .int .i64 0]) ?_ rfl ⟨by rw [H0.out], ?_⟩
      · simp [results, Tryd.results26, go_sem, *]
      · repeat' first | (with_reducible assumption) | (with_reducible refine setB ?_ ?_) | omega
    · have dl : decide ((i : Int) < (N : Int)) = true := by simp; omega
      have CMi := Lib.hid (CM.out i H0.out)
      obtain ⟨⟨c0, c1⟩, ⟨c2, c3⟩, c4⟩ := KM.out.two
      obtain ⟨⟨r0, r1⟩, ⟨r2, r3⟩, r4⟩ := KA.out.two
      have dn : decide (i < N) = true := by simp; omega
      have wi : IntKind.i64.wrap ((i : Int) + 1) = (i : Int) + 1 := by rw [IntKind.wrap_i64]; omega
      have wj : wrap64 ((i : Int) + 1) = (i : Int) + 1 := by unfold wrap64; omega
      rcases PC.out (i + 1) with ⟨k1, k2⟩ | k1
      · rw [k1] at CMi
        have K1 := Lib.hid k1
        clear k1 k2
        generalize hp : powI (i + 1) a = p at *
        go_wp2_with fail
        (with_reducible refine (CMi.out _).mono ?_)
        rintro e w8 ⟨rfl, hb⟩
        have JM := Lib.hid (KM.out.below hb)
        have JA := Lib.hid (KA.out.below hb)
        have JR := Lib.hid (KR.out.below hb)
        have JB := bcall QB hb
        obtain ⟨⟨q0, q1⟩, ⟨q2, q3⟩, q4⟩ := (KM.out.below hb).two
        clear hb c0 c1 c2 c3 c4 r0 r1 r2 r3 r4
        go_wp2_with fail
        go_roundw
        case rel =>
          refine ⟨i + 1, by omega, by simp, by rw [hp]; exact K1.out, ?_, (OwnC.set ma (OwnC.set ma JA.out)).old _, (OwnC.set mr (OwnC.set mr JR.out)).old _, ?_⟩
          · rw [hp]; exact (OwnC.put2 JM.out).old _
          · repeat' first | (with_reducible refine bnew ?_ _) | (with_reducible assumption) | (with_reducible refine setB ?_ ?_) | omega
        case measure => simp [intOf]; omega
      · rw [k1] at CMi
        have e : powI N a = ((0, 0), 6) := by
          have := PE.out (i + 1) k1 (N - (i + 1))
          rwa [show i + 1 + (N - (i + 1)) = N by omega] at this
        have HE := Lib.hid e
        clear k1 e
        go_wp2_with fail
        (with_reducible refine (CMi.out _).mono ?_)
        rintro e w8 ⟨rfl, hb⟩
        obtain ⟨⟨q0, q1⟩, ⟨q2, q3⟩, q4⟩ := (KR.out.below hb).two
        have JB := bcall QB hb
        clear hb c0 c1 c2 c3 c4 r0 r1 r2 r3 r4
        go_wp2_with fail
        refine bodyPost_ret (v := .tuple #[.agg #[.int .i64 0, .int .i64 0], .int .i64 6]) ?_ rfl ⟨by rw [HE.out], ?_⟩
        · simp [results, Tryd.results26, go_sem, *]
        · repeat' first | (with_reducible refine bnew ?_ _) | (with_reducible assumption) | (with_reducible refine setB ?_ ?_) | omega
end Go.Proofs.YtinnlahmlepeeaaDoor
