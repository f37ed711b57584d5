/- The reference's Div. -/
import Derived.Test.YtinnlahmlepeeaaDoorFraSr
import Derived.RegionTactic
import Derived.Deep.RegionHeld3
namespace Go.Proofs.YtinnlahmlepeeaaDoor
open Go.RowKit
theorem inv_valid {b : F2} (hb : validF b = true) (h0 : b.1 ≠ 0) : validF (if b.1 < 0 then (-b.2, -b.1) else (b.2, b.1)) = true := by
  obtain ⟨p1, p2, p3, p4, p5⟩ := (validF_iff b).1 hb
  by_cases h : b.1 < 0
  · rw [if_pos h, validF_iff]
    exact ⟨by show 1 ≤ -b.1; omega, by show -b.1 < _; omega, by show _ < -b.2; omega, by show -b.2 < _; omega, by show Nat.gcd (-b.2).natAbs (-b.1).natAbs = 1; rw [Int.natAbs_neg, Int.natAbs_neg, Nat.gcd_comm]; exact p5⟩
  · rw [if_neg h, validF_iff]
    exact ⟨by show 1 ≤ b.1; omega, by show b.1 < _; omega, by show _ < b.2; omega, by show b.2 < _; omega, by show Nat.gcd b.2.natAbs b.1.natAbs = 1; rw [Nat.gcd_comm]; exact p5⟩
theorem low_div {a b : F2} (ha : validF a = true) (hb : validF b = true) (h0 : b.1 ≠ 0) :
    lowR (((a.1.natAbs : Int) * (b.2.natAbs : Int)) / (Nat.gcd (((a.2.natAbs : Int) * (b.1.natAbs : Int))).natAbs (((a.1.natAbs : Int) * (b.2.natAbs : Int))).natAbs : Nat)) (!((decide (a.1 < 0) != decide (b.2 < 0)) == (decide (a.2 < 0) != decide (b.1 < 0)))) (((a.2.natAbs : Int) * (b.1.natAbs : Int)) / (Nat.gcd (((a.2.natAbs : Int) * (b.1.natAbs : Int))).natAbs (((a.1.natAbs : Int) * (b.2.natAbs : Int))).natAbs : Nat)) = divR a b := by
  have key := low_mul ha (inv_valid hb h0)
  have e : divR a b = mulR a (if b.1 < 0 then (-b.2, -b.1) else (b.2, b.1)) := by
    unfold divR
    rw [if_pos]
    rw [hb]
    simpa using h0
  obtain ⟨p1, _⟩ := (validF_iff a).1 ha
  obtain ⟨q1, _⟩ := (validF_iff b).1 hb
  rw [e, ← key, decide_eq_false (show ¬ a.2 < 0 by omega), decide_eq_false (show ¬ b.2 < 0 by omega)]
  by_cases h : b.1 < 0
  · simp only [if_pos h, Int.natAbs_neg]
    rw [decide_eq_true h, decide_eq_true (show -b.2 < 0 by omega)]
    rcases decide (a.1 < 0) with _ | _ <;> rfl
  · simp only [if_neg h]
    rw [decide_eq_false h, decide_eq_false (show ¬ b.2 < 0 by omega)]
    rcases decide (a.1 < 0) with _ | _ <;> rfl
/-- Two pointers to two new numbers. -/
def Pw2 (w3 : World) (n1 n2 : Int) (s : Bool) (m1 m2 : Int) (t : Bool) (x y : Value) (wx : World) : Prop :=
  ∃ g h : Nat, x = .pointer (some ⟨g, 0, none⟩) ∧ y = .pointer (some ⟨h, 0, none⟩) ∧ g ≠ h ∧ (wx.cell? ⟨g, 0, none⟩ = some (.int .u64 n1) ∧ wx.cell? ⟨g, 1, none⟩ = some (.int .u64 n2) ∧ wx.cell? ⟨g, 2, none⟩ = some (.bool s)) ∧
    (wx.cell? ⟨h, 0, none⟩ = some (.int .u64 m1) ∧ wx.cell? ⟨h, 1, none⟩ = some (.int .u64 m2) ∧ wx.cell? ⟨h, 2, none⟩ = some (.bool t)) ∧ (wx.frozen? ⟨g, 0, none⟩ = false ∧ wx.frozen? ⟨g, 1, none⟩ = false ∧ wx.frozen? ⟨g, 2, none⟩ = false) ∧
    (wx.frozen? ⟨h, 0, none⟩ = false ∧ wx.frozen? ⟨h, 1, none⟩ = false ∧ wx.frozen? ⟨h, 2, none⟩ = false) ∧ w3.heap.size ≤ g ∧ w3.heap.size ≤ h ∧ Below w3.heap.size w3 wx
set_option maxHeartbeats 4000000 in
theorem rdiv_any (a b : F2) (ha : validF a = true) (hb : validF b = true) (h0 : b.1 ≠ 0) (w : World) : Calls Tryd.prog 24 #[.agg #[.int .i64 a.1, .int .i64 a.2], .agg #[.int .i64 b.1, .int .i64 b.2]] w fun e w' => e = .returned (.tuple #[.agg #[.int .i64 (divR a b).1.1, .int .i64 (divR a b).1.2], .int .i64 (divR a b).2]) ∧ Below w.heap.size w w' := by
  obtain ⟨p1, p2, p3, p4, _⟩ := (validF_iff a).1 ha
  obtain ⟨q1, q2, q3, q4, _⟩ := (validF_iff b).1 hb
  have ia := valid_In64 ha
  have ib := valid_In64 hb
  have m0 : 0 ≤ ((a.1.natAbs : Int) * (b.2.natAbs : Int)) := Int.mul_nonneg (by omega) (by omega)
  have m1 : ((a.1.natAbs : Int) * (b.2.natAbs : Int)) ≤ 1000000000000000000 * 1000000000000000000 := Int.mul_le_mul (by omega) (by omega) (by omega) (by omega)
  have d0 : 0 < ((a.2.natAbs : Int) * (b.1.natAbs : Int)) := Int.mul_pos (by omega) (by omega)
  have d1 : ((a.2.natAbs : Int) * (b.1.natAbs : Int)) ≤ 1000000000000000000 * 1000000000000000000 := Int.mul_le_mul (by omega) (by omega) (by omega) (by omega)
  have T1 : Hid (∀ w, Calls Tryd.prog 54 #[.int .i64 a.1, .int .i64 b.2] w fun e w' => e = .returned (.agg #[.int .u64 (whi ((a.1.natAbs : Int) * (b.2.natAbs : Int))), .int .u64 (wlo ((a.1.natAbs : Int) * (b.2.natAbs : Int))), .bool (decide (a.1 < 0) != decide (b.2 < 0))]) ∧ Below w.heap.size w w') := Lib.hid fun w => rtimes_any a.1 b.2 ia.1 ib.2 w
  have T2 : Hid (∀ w, Calls Tryd.prog 54 #[.int .i64 a.2, .int .i64 b.1] w fun e w' => e = .returned (.agg #[.int .u64 (whi ((a.2.natAbs : Int) * (b.1.natAbs : Int))), .int .u64 (wlo ((a.2.natAbs : Int) * (b.1.natAbs : Int))), .bool (decide (a.2 < 0) != decide (b.1 < 0))]) ∧ Below w.heap.size w w') := Lib.hid fun w => rtimes_any a.2 b.1 ia.2 ib.1 w
  have CL : Hid (∀ w, Calls Tryd.prog 46 #[.agg #[.int .u64 (whi ((a.1.natAbs : Int) * (b.2.natAbs : Int))), .int .u64 (wlo ((a.1.natAbs : Int) * (b.2.natAbs : Int))), .bool (!((decide (a.1 < 0) != decide (b.2 < 0)) == (decide (a.2 < 0) != decide (b.1 < 0))))], .agg #[.int .u64 (whi ((a.2.natAbs : Int) * (b.1.natAbs : Int))), .int .u64 (wlo ((a.2.natAbs : Int) * (b.1.natAbs : Int))), .bool false]] w fun e w' => e = .returned (.tuple #[.agg #[.int .i64 (divR a b).1.1, .int .i64 (divR a b).1.2], .int .i64 (divR a b).2]) ∧ Below w.heap.size w w') := Lib.hid fun w => by have := rlowest_any ((a.1.natAbs : Int) * (b.2.natAbs : Int)) (!((decide (a.1 < 0) != decide (b.2 < 0)) == (decide (a.2 < 0) != decide (b.1 < 0)))) ((a.2.natAbs : Int) * (b.1.natAbs : Int)) false _ rfl m0 (by omega) d0 (by omega) w; rwa [low_div ha hb h0] at this
  generalize divR a b = R at *
  clear p1 p2 p3 p4 q1 q2 q3 q4 ia ib m0 m1 d0 d1 ha hb h0
  generalize (decide (a.1 < 0) != decide (b.2 < 0)) = s at *
  generalize (decide (a.2 < 0) != decide (b.1 < 0)) = t at *
  generalize whi ((a.1.natAbs : Int) * (b.2.natAbs : Int)) = n1 at *
  generalize wlo ((a.1.natAbs : Int) * (b.2.natAbs : Int)) = n2 at *
  generalize whi ((a.2.natAbs : Int) * (b.1.natAbs : Int)) = m1 at *
  generalize wlo ((a.2.natAbs : Int) * (b.1.natAbs : Int)) = m2 at *
  obtain ⟨a1, a2⟩ := a
  obtain ⟨b1, b2⟩ := b
  dsimp only at *
  go_enter Tryd.func24, Tryd.ntmps24
  go_upto_region 1 with fail
  have KA := Lib.hid (((OwnC.new w #[.int .i64 a1, .int .i64 a2] 23).old (.cells #[.int .i64 b1, .int .i64 b2] 23)).old (.cells #[.int .i64 0, .int .i64 0] 23))
  have KB := Lib.hid ((OwnC.new2 w (.cells #[.int .i64 a1, .int .i64 a2] 23) #[.int .i64 b1, .int .i64 b2] 23).old (.cells #[.int .i64 0, .int .i64 0] 23))
  have KR := Lib.hid (OwnC.new3 w (.cells #[.int .i64 a1, .int .i64 a2] 23) (.cells #[.int .i64 b1, .int .i64 b2] 23) #[.int .i64 0, .int .i64 0] 23)
  have QW := bnew (bnew (bnew (Below.refl _ w) (.cells #[.int .i64 a1, .int .i64 a2] 23)) (.cells #[.int .i64 b1, .int .i64 b2] 23)) (.cells #[.int .i64 0, .int .i64 0] 23)
  generalize (((w.alloc (.cells #[.int .i64 a1, .int .i64 a2] 23)).alloc (.cells #[.int .i64 b1, .int .i64 b2] 23)).alloc (.cells #[.int .i64 0, .int .i64 0] 23)) = w3 at *
  have hlt := KR.out.2.2
  go_cut [6, 7] (fun x y wx => Pw2 w3 n1 n2 s m1 m2 t x y wx)
  case first =>
    go_region_held3 (fun w' => w'.cell? ⟨w.heap.size, 0, none⟩ = some (.int .i64 a1) ∧ w'.cell? ⟨w.heap.size, 1, none⟩ = some (.int .i64 a2) ∧ w'.cell? ⟨w.heap.size + 1, 0, none⟩ = some (.int .i64 b1) ∧ w'.cell? ⟨w.heap.size + 1, 1, none⟩ = some (.int .i64 b2) ∧ Below w3.heap.size w3 w')
      ((refine mkU2 KA KB ?_; repeat' first | (with_reducible assumption) | (with_reducible exact Below.refl _ _) | (with_reducible refine bnew ?_ _) | (with_reducible refine Below.drew ?_) | (with_reducible refine setB ?_ ?_) | omega))
      ((first | (go_at_call 54; (with_reducible refine (T1.out _).mono ?_); rintro e w' ⟨rfl, hb⟩; have hbb := bcall (getU2 (by assumption)) hb; have hbs := hbb.size; (first | (have ZB := Lib.hid (OwnC.below (OwnC.new2 _ _ _ _) hb); have ZA := Lib.hid (OwnC.below (OwnC.old (OwnC.new _ _ _) _) hb)) | (have ZB := Lib.hid (OwnC.below (OwnC.drew (OwnC.new2 _ _ _ _)) hb); have ZA := Lib.hid (OwnC.below (OwnC.drew (OwnC.old (OwnC.new _ _ _) _)) hb)) | (have ZB := Lib.hid (OwnC.below (OwnC.new _ _ _) hb); (try (have ZA := Lib.hid (OwnC.below (OwnC.old ZA.out _) hb)))) | (have ZA := Lib.hid (OwnC.below (OwnC.drew (OwnC.new _ _ _)) hb)) | (have ZA := Lib.hid (OwnC.below ZA.out hb); (try (have ZB := Lib.hid (OwnC.below ZB.out hb)))) | skip); (try (have rA := ZA.out.three; obtain ⟨⟨ra0, ra1, ra2⟩, ⟨ra3, ra4, ra5⟩, ra6⟩ := rA)); (try (have rB := ZB.out.three; obtain ⟨⟨rb0, rb1, rb2⟩, ⟨rb3, rb4, rb5⟩, rb6⟩ := rB)); clear hb) | (go_at_call 54; (with_reducible refine (T2.out _).mono ?_); rintro e w' ⟨rfl, hb⟩; have hbb := bcall (getU2 (by assumption)) hb; have hbs := hbb.size; (first | (have ZB := Lib.hid (OwnC.below (OwnC.new2 _ _ _ _) hb); have ZA := Lib.hid (OwnC.below (OwnC.old (OwnC.new _ _ _) _) hb)) | (have ZB := Lib.hid (OwnC.below (OwnC.drew (OwnC.new2 _ _ _ _)) hb); have ZA := Lib.hid (OwnC.below (OwnC.drew (OwnC.old (OwnC.new _ _ _) _)) hb)) | (have ZB := Lib.hid (OwnC.below (OwnC.new _ _ _) hb); (try (have ZA := Lib.hid (OwnC.below (OwnC.old ZA.out _) hb)))) | (have ZA := Lib.hid (OwnC.below (OwnC.drew (OwnC.new _ _ _)) hb)) | (have ZA := Lib.hid (OwnC.below ZA.out hb); (try (have ZB := Lib.hid (OwnC.below ZB.out hb)))) | skip); (try (have rA := ZA.out.three; obtain ⟨⟨ra0, ra1, ra2⟩, ⟨ra3, ra4, ra5⟩, ra6⟩ := rA)); (try (have rB := ZB.out.three; obtain ⟨⟨rb0, rb1, rb2⟩, ⟨rb3, rb4, rb5⟩, rb6⟩ := rB)); clear hb)))
    all_goals go_wp2_with fail
    all_goals go_meet
    all_goals
      refine ⟨_, _, rfl, rfl, ?_, ⟨?_, ?_, ?_⟩, ⟨?_, ?_, ?_⟩, ⟨?_, ?_, ?_⟩, ⟨?_, ?_, ?_⟩, ?_, ?_, ?_⟩
      all_goals first | omega | (go_simp; done) | (repeat' first | (with_reducible assumption) | (with_reducible exact Below.refl _ _) | (with_reducible refine bnew ?_ _) | (with_reducible refine Below.drew ?_) | (with_reducible refine setB ?_ ?_) | omega)
  case rest =>
    obtain ⟨g, h, rfl, rfl, hne, ⟨g0, g1, g2⟩, ⟨k0, k1, k2⟩, ⟨f0, f1, f2⟩, ⟨j0, j1, j2⟩, hg, hh, hbc⟩ := hcut
    have HR := Lib.hid (KR.out.below hbc)
    have QX := bcall QW hbc
    have hgr : g ≠ w.heap.size + 1 + 1 := by omega
    have hhr : h ≠ w.heap.size + 1 + 1 := by omega
    have hne' : h ≠ g := fun e => hne e.symm
    clear KA KB KR QW T1 T2 hbc
    go_wp2_with fail
    (with_reducible refine (CL.out _).mono ?_)
    rintro e w7 ⟨rfl, hb⟩
    obtain ⟨⟨q0, q1⟩, ⟨q2, q3⟩, q4⟩ := ((OwnC.set hhr (OwnC.set hgr HR.out)).below hb).two
    have QY := bcall (setB (setB QX (by omega)) (by omega)) hb
    clear hb g0 g1 g2 k0 k1 k2 f0 f1 f2 j0 j1 j2
    go_wp2_with fail
    refine bodyPost_ret (v := .tuple #[.agg #[.int .i64 R.1.1, .int .i64 R.1.2], .int .i64 R.2]) ?_ rfl ⟨rfl, ?_⟩
    · simp [results, Tryd.results24, go_sem, *]
    · repeat' first | (with_reducible assumption) | (with_reducible refine setB ?_ ?_) | omega
end Go.Proofs.YtinnlahmlepeeaaDoor
