/- The reference's Cmp, Floor, Round. -/
import Derived.Test.YtinnlahmlepeeaaDoorFraMp
import Derived.RegionTactic
import Derived.Deep.RegionHeld3
namespace Go.Proofs.YtinnlahmlepeeaaDoor
open Go.RowKit
theorem cmp_math {z1 z2 M1 M2 : Int} {s1 s2 : Bool} (h1 : z1 = if s1 then -M1 else M1) (h2 : z2 = if s2 then -M2 else M2) (p1 : 0 ≤ M1) (p2 : 0 ≤ M2) :
    sgnI (z1 - z2) = if plusM M1 s1 M2 (!s2) = 0 then 0 else if plusS M1 s1 M2 (!s2) = true then -1 else 1 := by
  subst h1
  subst h2
  unfold sgnI plusM plusS
  rcases s1 with _ | _ <;> rcases s2 with _ | _ <;> simp <;> (repeat' split) <;> first | rfl | omega
theorem sgn_split (x : Int) {y : Int} (hy : 0 < y) : x * y = if (decide (x < 0) != decide (y < 0)) = true then -((x.natAbs : Int) * (y.natAbs : Int)) else (x.natAbs : Int) * (y.natAbs : Int) := by
  rw [decide_eq_false (show ¬ y < 0 by omega), show (y.natAbs : Int) = y by omega]
  rcases Int.lt_or_le x 0 with h | h
  · rw [decide_eq_true h, if_pos (by rfl), show (x.natAbs : Int) = -x by omega, Int.neg_mul, Int.neg_neg]
  · rw [decide_eq_false (show ¬ x < 0 by omega), if_neg (by decide), show (x.natAbs : Int) = x by omega]
/-- A pointer to a new number. -/
def Pt3w (s : Value) (wx : World) (n : Nat) (p1 p2 : Int) (ps : Bool) : Prop := ∃ p : Nat, s = .pointer (some ⟨p, 0, none⟩) ∧ n + 1 < p ∧ OwnC wx p #[.int .u64 p1, .int .u64 p2, .bool ps]
theorem closew {w3 wx w : World} {n p : Nat} {p1 p2 : Int} {ps : Bool} (hb : Below w.heap.size w w3) (B : Below w3.heap.size w3 wx) (hp : n + 1 < p) (hO : OwnC wx p #[.int .u64 p1, .int .u64 p2, .bool ps]) :
    Pt3w (.pointer (some ⟨p, 0, none⟩)) wx n p1 p2 ps ∧ Below w.heap.size w wx := ⟨⟨p, rfl, hp, hO⟩, bcall hb B⟩
set_option maxHeartbeats 4000000 in
theorem rcmp_any (a b : F2) (ha : validF a = true) (hb : validF b = true) (w : World) : Calls Tryd.prog 28 #[.agg #[.int .i64 a.1, .int .i64 a.2], .agg #[.int .i64 b.1, .int .i64 b.2]] w fun e w' => e = .returned (.int .i64 (cmpR a b)) ∧ Below w.heap.size w w' := by
  obtain ⟨p1, p2, p3, p4, _⟩ := (validF_iff a).1 ha
  obtain ⟨q1, q2, q3, q4, _⟩ := (validF_iff b).1 hb
  have ia := valid_In64 ha
  have ib := valid_In64 hb
  have m0 : 0 ≤ ((a.1.natAbs : Int) * (b.2.natAbs : Int)) := Int.mul_nonneg (by omega) (by omega)
  have m1 : ((a.1.natAbs : Int) * (b.2.natAbs : Int)) ≤ 1000000000000000000 * 1000000000000000000 := Int.mul_le_mul (by omega) (by omega) (by omega) (by omega)
  have d0 : 0 ≤ ((b.1.natAbs : Int) * (a.2.natAbs : Int)) := Int.mul_nonneg (by omega) (by omega)
  have d1 : ((b.1.natAbs : Int) * (a.2.natAbs : Int)) ≤ 1000000000000000000 * 1000000000000000000 := Int.mul_le_mul (by omega) (by omega) (by omega) (by omega)
  have hE : cmpR a b = if plusM ((a.1.natAbs : Int) * (b.2.natAbs : Int)) (decide (a.1 < 0) != decide (b.2 < 0)) ((b.1.natAbs : Int) * (a.2.natAbs : Int)) (!(decide (b.1 < 0) != decide (a.2 < 0))) = 0 then 0 else if plusS ((a.1.natAbs : Int) * (b.2.natAbs : Int)) (decide (a.1 < 0) != decide (b.2 < 0)) ((b.1.natAbs : Int) * (a.2.natAbs : Int)) (!(decide (b.1 < 0) != decide (a.2 < 0))) = true then -1 else 1 := by
    rw [← cmp_math (sgn_split a.1 (show 0 < b.2 by omega)) (sgn_split b.1 (show 0 < a.2 by omega)) m0 d0]
    unfold cmpR
    rw [if_pos (by rw [ha, hb]; rfl), Int.neg_mul, Int.sub_eq_add_neg]
  have hP : InM (plusM ((a.1.natAbs : Int) * (b.2.natAbs : Int)) (decide (a.1 < 0) != decide (b.2 < 0)) ((b.1.natAbs : Int) * (a.2.natAbs : Int)) (!(decide (b.1 < 0) != decide (a.2 < 0)))) := by
    unfold plusM InM
    (repeat' split) <;> omega
  have T1 : Hid (∀ w, Calls Tryd.prog 54 #[.int .i64 a.1, .int .i64 b.2] w fun e w' => e = .returned (.agg #[.int .u64 (whi ((a.1.natAbs : Int) * (b.2.natAbs : Int))), .int .u64 (wlo ((a.1.natAbs : Int) * (b.2.natAbs : Int))), .bool (decide (a.1 < 0) != decide (b.2 < 0))]) ∧ Below w.heap.size w w') := Lib.hid fun w => rtimes_any a.1 b.2 ia.1 ib.2 w
  have T2 : Hid (∀ w, Calls Tryd.prog 54 #[.int .i64 b.1, .int .i64 a.2] w fun e w' => e = .returned (.agg #[.int .u64 (whi ((b.1.natAbs : Int) * (a.2.natAbs : Int))), .int .u64 (wlo ((b.1.natAbs : Int) * (a.2.natAbs : Int))), .bool (decide (b.1 < 0) != decide (a.2 < 0))]) ∧ Below w.heap.size w w') := Lib.hid fun w => rtimes_any b.1 a.2 ib.1 ia.2 w
  have MI : Hid (∀ w, Calls Tryd.prog 55 #[.agg #[.int .u64 (whi ((b.1.natAbs : Int) * (a.2.natAbs : Int))), .int .u64 (wlo ((b.1.natAbs : Int) * (a.2.natAbs : Int))), .bool (decide (b.1 < 0) != decide (a.2 < 0))]] w fun e w' => e = .returned (.agg #[.int .u64 (whi ((b.1.natAbs : Int) * (a.2.natAbs : Int))), .int .u64 (wlo ((b.1.natAbs : Int) * (a.2.natAbs : Int))), .bool (!(decide (b.1 < 0) != decide (a.2 < 0)))]) ∧ Below w.heap.size w w') := Lib.hid fun w => rminus_any ((b.1.natAbs : Int) * (a.2.natAbs : Int)) (decide (b.1 < 0) != decide (a.2 < 0)) w
  have PL : Hid (∀ w, Calls Tryd.prog 53 #[.agg #[.int .u64 (whi ((a.1.natAbs : Int) * (b.2.natAbs : Int))), .int .u64 (wlo ((a.1.natAbs : Int) * (b.2.natAbs : Int))), .bool (decide (a.1 < 0) != decide (b.2 < 0))], .agg #[.int .u64 (whi ((b.1.natAbs : Int) * (a.2.natAbs : Int))), .int .u64 (wlo ((b.1.natAbs : Int) * (a.2.natAbs : Int))), .bool (!(decide (b.1 < 0) != decide (a.2 < 0)))]] w fun e w' => e = .returned (.agg #[.int .u64 (whi (plusM ((a.1.natAbs : Int) * (b.2.natAbs : Int)) (decide (a.1 < 0) != decide (b.2 < 0)) ((b.1.natAbs : Int) * (a.2.natAbs : Int)) (!(decide (b.1 < 0) != decide (a.2 < 0))))), .int .u64 (wlo (plusM ((a.1.natAbs : Int) * (b.2.natAbs : Int)) (decide (a.1 < 0) != decide (b.2 < 0)) ((b.1.natAbs : Int) * (a.2.natAbs : Int)) (!(decide (b.1 < 0) != decide (a.2 < 0))))), .bool (plusS ((a.1.natAbs : Int) * (b.2.natAbs : Int)) (decide (a.1 < 0) != decide (b.2 < 0)) ((b.1.natAbs : Int) * (a.2.natAbs : Int)) (!(decide (b.1 < 0) != decide (a.2 < 0))))]) ∧ Below w.heap.size w w') := Lib.hid fun w => rplus_any ((a.1.natAbs : Int) * (b.2.natAbs : Int)) (decide (a.1 < 0) != decide (b.2 < 0)) ((b.1.natAbs : Int) * (a.2.natAbs : Int)) (!(decide (b.1 < 0) != decide (a.2 < 0))) ⟨m0, by omega⟩ ⟨d0, by omega⟩ w
  have ZE : Hid (∀ w, Calls Tryd.prog 58 #[.agg #[.int .u64 (whi (plusM ((a.1.natAbs : Int) * (b.2.natAbs : Int)) (decide (a.1 < 0) != decide (b.2 < 0)) ((b.1.natAbs : Int) * (a.2.natAbs : Int)) (!(decide (b.1 < 0) != decide (a.2 < 0))))), .int .u64 (wlo (plusM ((a.1.natAbs : Int) * (b.2.natAbs : Int)) (decide (a.1 < 0) != decide (b.2 < 0)) ((b.1.natAbs : Int) * (a.2.natAbs : Int)) (!(decide (b.1 < 0) != decide (a.2 < 0))))), .bool (plusS ((a.1.natAbs : Int) * (b.2.natAbs : Int)) (decide (a.1 < 0) != decide (b.2 < 0)) ((b.1.natAbs : Int) * (a.2.natAbs : Int)) (!(decide (b.1 < 0) != decide (a.2 < 0))))]] w fun e w' => e = .returned (.bool (decide ((plusM ((a.1.natAbs : Int) * (b.2.natAbs : Int)) (decide (a.1 < 0) != decide (b.2 < 0)) ((b.1.natAbs : Int) * (a.2.natAbs : Int)) (!(decide (b.1 < 0) != decide (a.2 < 0)))) = 0))) ∧ Below w.heap.size w w') := Lib.hid fun w => rzero_any (plusM ((a.1.natAbs : Int) * (b.2.natAbs : Int)) (decide (a.1 < 0) != decide (b.2 < 0)) ((b.1.natAbs : Int) * (a.2.natAbs : Int)) (!(decide (b.1 < 0) != decide (a.2 < 0)))) hP (plusS ((a.1.natAbs : Int) * (b.2.natAbs : Int)) (decide (a.1 < 0) != decide (b.2 < 0)) ((b.1.natAbs : Int) * (a.2.natAbs : Int)) (!(decide (b.1 < 0) != decide (a.2 < 0)))) w
  rw [hE]
  clear hE hP p1 p2 p3 p4 q1 q2 q3 q4 ia ib m0 m1 d0 d1 ha hb
  generalize (plusM ((a.1.natAbs : Int) * (b.2.natAbs : Int)) (decide (a.1 < 0) != decide (b.2 < 0)) ((b.1.natAbs : Int) * (a.2.natAbs : Int)) (!(decide (b.1 < 0) != decide (a.2 < 0)))) = p at *
  generalize (plusS ((a.1.natAbs : Int) * (b.2.natAbs : Int)) (decide (a.1 < 0) != decide (b.2 < 0)) ((b.1.natAbs : Int) * (a.2.natAbs : Int)) (!(decide (b.1 < 0) != decide (a.2 < 0)))) = ps at *
  generalize (decide (a.1 < 0) != decide (b.2 < 0)) = s1 at *
  generalize (decide (b.1 < 0) != decide (a.2 < 0)) = s2 at *
  generalize (!s2) = s3 at *
  generalize whi p = p1 at *
  generalize wlo p = p2 at *
  generalize whi ((a.1.natAbs : Int) * (b.2.natAbs : Int)) = m1 at *
  generalize wlo ((a.1.natAbs : Int) * (b.2.natAbs : Int)) = m2 at *
  generalize whi ((b.1.natAbs : Int) * (a.2.natAbs : Int)) = n1 at *
  generalize wlo ((b.1.natAbs : Int) * (a.2.natAbs : Int)) = n2 at *
  obtain ⟨a1, a2⟩ := a
  obtain ⟨b1, b2⟩ := b
  dsimp only at *
  have hz' : decide (p = 0) = true ∨ decide (p = 0) = false := by simp [Decidable.em]
  have h3 : (if p = 0 then (0 : Int) else if ps = true then -1 else 1) = if decide (p = 0) = true then 0 else if ps = true then -1 else 1 := by simp
  rw [h3]
  clear h3
  generalize decide (p = 0) = z at *
  go_enter Tryd.func28, Tryd.ntmps28
  go_wp2_with fail
  have KA := Lib.hid ((OwnC.new w #[.int .i64 a1, .int .i64 a2] 23).old (.cells #[.int .i64 b1, .int .i64 b2] 23))
  have KB := Lib.hid (OwnC.new2 w (.cells #[.int .i64 a1, .int .i64 a2] 23) #[.int .i64 b1, .int .i64 b2] 23)
  have QW := bnew (bnew (Below.refl _ w) (.cells #[.int .i64 a1, .int .i64 a2] 23)) (.cells #[.int .i64 b1, .int .i64 b2] 23)
  generalize ((w.alloc (.cells #[.int .i64 a1, .int .i64 a2] 23)).alloc (.cells #[.int .i64 b1, .int .i64 b2] 23)) = w3 at *
  have hlt := KB.out.2.2
  go_cut [5] (fun s wx => Pt3w s wx w.heap.size p1 p2 ps ∧ Below w.heap.size w wx)
  case first =>
    go_region_held3 (fun w' => w'.cell? ⟨w.heap.size, 0, none⟩ = some (.int .i64 a1) ∧ w'.cell? ⟨w.heap.size, 1, none⟩ = some (.int .i64 a2) ∧ w'.cell? ⟨w.heap.size + 1, 0, none⟩ = some (.int .i64 b1) ∧ w'.cell? ⟨w.heap.size + 1, 1, none⟩ = some (.int .i64 b2) ∧ Below w3.heap.size w3 w')
      ((refine mkU2 KA KB ?_; repeat' first | (with_reducible assumption) | (with_reducible exact Below.refl _ _) | (with_reducible refine Below.drew ?_) | (with_reducible refine bnew ?_ _) | (with_reducible refine setB ?_ ?_) | omega))
      ((first | (go_at_call 54; (with_reducible refine (T1.out _).mono ?_); rintro e w' ⟨rfl, hb⟩; have hx := bcall (getU2 (by assumption)) hb; have hxs := hx.size; (first | (have ZP := Lib.hid (OwnC.below ZP.out hb)) | (have ZP := Lib.hid (OwnC.below (OwnC.drew ZP.out) hb)) | (have ZP := Lib.hid (OwnC.below (OwnC.new _ _ _) hb)) | (have ZP := Lib.hid (OwnC.below (OwnC.drew (OwnC.new _ _ _)) hb)) | skip); clear hb; (try (obtain ⟨⟨z0, z1, z2⟩, ⟨z3, z4, z5⟩, z6⟩ := ZP.out.three))) | (go_at_call 54; (with_reducible refine (T2.out _).mono ?_); rintro e w' ⟨rfl, hb⟩; have hx := bcall (getU2 (by assumption)) hb; have hxs := hx.size; (first | (have ZP := Lib.hid (OwnC.below ZP.out hb)) | (have ZP := Lib.hid (OwnC.below (OwnC.drew ZP.out) hb)) | (have ZP := Lib.hid (OwnC.below (OwnC.new _ _ _) hb)) | (have ZP := Lib.hid (OwnC.below (OwnC.drew (OwnC.new _ _ _)) hb)) | skip); clear hb; (try (obtain ⟨⟨z0, z1, z2⟩, ⟨z3, z4, z5⟩, z6⟩ := ZP.out.three))) | (go_at_call 55; (with_reducible refine (MI.out _).mono ?_); rintro e w' ⟨rfl, hb⟩; have hx := bcall (getU2 (by assumption)) hb; have hxs := hx.size; (first | (have ZP := Lib.hid (OwnC.below ZP.out hb)) | (have ZP := Lib.hid (OwnC.below (OwnC.drew ZP.out) hb)) | (have ZP := Lib.hid (OwnC.below (OwnC.new _ _ _) hb)) | (have ZP := Lib.hid (OwnC.below (OwnC.drew (OwnC.new _ _ _)) hb)) | skip); clear hb; (try (obtain ⟨⟨z0, z1, z2⟩, ⟨z3, z4, z5⟩, z6⟩ := ZP.out.three))) | (go_at_call 53; (with_reducible refine (PL.out _).mono ?_); rintro e w' ⟨rfl, hb⟩; have hx := bcall (getU2 (by assumption)) hb; have hxs := hx.size; (first | (have ZP := Lib.hid (OwnC.below ZP.out hb)) | (have ZP := Lib.hid (OwnC.below (OwnC.drew ZP.out) hb)) | (have ZP := Lib.hid (OwnC.below (OwnC.new _ _ _) hb)) | (have ZP := Lib.hid (OwnC.below (OwnC.drew (OwnC.new _ _ _)) hb)) | skip); clear hb; (try (obtain ⟨⟨z0, z1, z2⟩, ⟨z3, z4, z5⟩, z6⟩ := ZP.out.three)))))
    all_goals go_wp2_with fail
    all_goals go_meet
    all_goals refine closew QW ?_ ?_ ?_
    all_goals first
      | (with_reducible exact OwnC.new _ _ _) | (with_reducible exact OwnC.put3 ZP.out) | exact OwnC.put3 ZP.out
      | omega
      | (repeat' first | (with_reducible assumption) | (with_reducible exact Below.refl _ _) | (with_reducible refine bnew ?_ _) | (with_reducible refine Below.drew ?_) | (with_reducible refine setB ?_ ?_) | omega)
  case rest =>
    clear QW hlt KA KB
    obtain ⟨⟨p, rfl, hp, QS⟩, QW⟩ := hcut
    have KS := Lib.hid QS
    clear QS T1 T2 MI PL
    obtain ⟨⟨z0, z1, z2⟩, ⟨z3, z4, z5⟩, z6⟩ := KS.out.three
    rcases z with _ | _ <;> rcases ps with _ | _
    · go_wp2_with fail
      (with_reducible refine (ZE.out _).mono ?_)
      rintro e w9 ⟨rfl, hb⟩
      have hb2 := bcall QW hb
      obtain ⟨⟨x0, x1, x2⟩, ⟨x3, x4, x5⟩, x6⟩ := (KS.out.below hb).three
      clear hb z0 z1 z2 z3 z4 z5 z6
      go_wp2_with fail
      go_ret
      exact ⟨rfl, hb2⟩
    · go_wp2_with fail
      (with_reducible refine (ZE.out _).mono ?_)
      rintro e w9 ⟨rfl, hb⟩
      have hb2 := bcall QW hb
      obtain ⟨⟨x0, x1, x2⟩, ⟨x3, x4, x5⟩, x6⟩ := (KS.out.below hb).three
      clear hb z0 z1 z2 z3 z4 z5 z6
      go_wp2_with fail
      go_ret
      exact ⟨rfl, hb2⟩
    · go_wp2_with fail
      (with_reducible refine (ZE.out _).mono ?_)
      rintro e w9 ⟨rfl, hb⟩
      have hb2 := bcall QW hb
      obtain ⟨⟨x0, x1, x2⟩, ⟨x3, x4, x5⟩, x6⟩ := (KS.out.below hb).three
      clear hb z0 z1 z2 z3 z4 z5 z6
      go_wp2_with fail
      go_ret
      exact ⟨rfl, hb2⟩
    · go_wp2_with fail
      (with_reducible refine (ZE.out _).mono ?_)
      rintro e w9 ⟨rfl, hb⟩
      have hb2 := bcall QW hb
      obtain ⟨⟨x0, x1, x2⟩, ⟨x3, x4, x5⟩, x6⟩ := (KS.out.below hb).three
      clear hb z0 z1 z2 z3 z4 z5 z6
      go_wp2_with fail
      go_ret
      exact ⟨rfl, hb2⟩
end Go.Proofs.YtinnlahmlepeeaaDoor
