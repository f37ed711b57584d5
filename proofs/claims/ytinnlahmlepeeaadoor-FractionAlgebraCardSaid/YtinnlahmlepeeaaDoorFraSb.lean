/- The difference. -/
import Derived.Test.YtinnlahmlepeeaaDoorFraDa
import Derived.Test.YtinnlahmlepeeaaDoorFraK
import Derived.RegionTactic
namespace Go.Proofs.YtinnlahmlepeeaaDoor
open Go.RowKit
def subR (a b : F2) : F2 × Int := if validF a && validF b then ratR (toQ a - toQ b) else ((0, 0), 1)
theorem negated_all (a : F2) (w : World) : Calls Tryd.prog 52 #[.agg #[.int .i64 a.1, .int .i64 a.2]] w fun e w' => e = .returned (.agg #[.int .i64 (wrap64 (-a.1)), .int .i64 a.2]) ∧ Below w.heap.size w w' := by
  obtain ⟨a1, a2⟩ := a
  dsimp only
  go_enter Tryd.func52, Tryd.ntmps52
  go_wp2_with fail
  refine bodyPost_ret (v := .agg #[.int .i64 (wrap64 (-a1)), .int .i64 a2]) ?_ rfl ⟨rfl, ?_⟩
  · simp [results, Tryd.results52, go_sem, go_sem]
  · have hBB := (bnew (bnew (Below.refl _ w) (.cells #[.int .i64 a1, .int .i64 a2] 23)) (.cells #[.int .i64 (wrap64 (-a1)), .int .i64 a2] 23))
    repeat' first | (with_reducible assumption) | (with_reducible exact Nat.le_refl _) | (with_reducible refine setB ?_ ?_) | (with_reducible refine Below.drew ?_) | (with_reducible refine bnew ?_ _) | omega
theorem sub_as {a b : F2} (hb : In64 b.1) : addR a (wrap64 (-b.1), b.2) = subR a b := by
  have hv : validF (wrap64 (-b.1), b.2) = validF b := by
    by_cases hm : b.1 = -9223372036854775808
    · have h1 : validF b = false := by
        rcases h : validF b with _ | _
        · rfl
        · have := (validF_iff b).1 h; omega
      rw [h1, hm]
      rcases h : validF (wrap64 (- -9223372036854775808), b.2) with _ | _
      · rfl
      · have := (validF_iff _).1 h
        have e : wrap64 (- -9223372036854775808) = -9223372036854775808 := by unfold wrap64; omega
        rw [e] at this
        omega
    · have e : wrap64 (-b.1) = -b.1 := by have h1 := hb.1; have h2 := hb.2; unfold wrap64; omega
      rw [e]
      rcases h : validF b with _ | _
      · rcases h' : validF (-b.1, b.2) with _ | _
        · rfl
        · have := neg_valid h'
          rw [show (-(-b.1, b.2).1, (-b.1, b.2).2) = b by simp] at this
          rw [this] at h; cases h
      · exact neg_valid h
  unfold addR subR
  rw [hv]
  by_cases hc : (validF a && validF b) = true
  · rw [if_pos hc, if_pos hc]
    have h2 : validF b = true := by simp at hc; exact hc.2
    have h3 := (validF_iff b).1 h2
    have e : wrap64 (-b.1) = -b.1 := by unfold wrap64; omega
    rw [e]
    congr 1
    unfold toQ
    rw [Rat.sub_eq_add_neg, Rat.neg_divInt]
  · rw [if_neg hc, if_neg hc]
theorem sub_any (a b : F2) (ha : In64 a.1 ∧ In64 a.2) (hb : In64 b.1 ∧ In64 b.2) (w : World) : Calls Tryd.prog 17 #[.agg #[.int .i64 a.1, .int .i64 a.2], .agg #[.int .i64 b.1, .int .i64 b.2]] w fun e w' => e = .returned (.tuple #[.agg #[.int .i64 (subR a b).1.1, .int .i64 (subR a b).1.2], .int .i64 (subR a b).2]) ∧ Below w.heap.size w w' := by
  have CN : Hid (∀ w, Calls Tryd.prog 52 #[.agg #[.int .i64 b.1, .int .i64 b.2]] w fun e w' => e = .returned (.agg #[.int .i64 (wrap64 (-b.1)), .int .i64 b.2]) ∧ Below w.heap.size w w') := Lib.hid fun w => negated_all b w
  have CA : Hid (∀ w, Calls Tryd.prog 16 #[.agg #[.int .i64 a.1, .int .i64 a.2], .agg #[.int .i64 (wrap64 (-b.1)), .int .i64 b.2]] w fun e w' => e = .returned (.tuple #[.agg #[.int .i64 (subR a b).1.1, .int .i64 (subR a b).1.2], .int .i64 (subR a b).2]) ∧ Below w.heap.size w w') := Lib.hid fun w => by have := add_any a (wrap64 (-b.1), b.2) ha ⟨by unfold In64 wrap64; omega, hb.2⟩ w; rwa [sub_as hb.1] at this
  clear ha hb
  generalize subR a b = R at *
  generalize wrap64 (-b.1) = n at *
  obtain ⟨a1, a2⟩ := a
  obtain ⟨b1, b2⟩ := b
  dsimp only at *
  go_enter Tryd.func17, Tryd.ntmps17
  go_wp2_with fail
  have KA := Lib.hid (((OwnC.new w #[.int .i64 a1, .int .i64 a2] 23).old (.cells #[.int .i64 b1, .int .i64 b2] 23)).old (.cells #[.int .i64 0, .int .i64 0] 23))
  have KB := Lib.hid ((OwnC.new2 w (.cells #[.int .i64 a1, .int .i64 a2] 23) #[.int .i64 b1, .int .i64 b2] 23).old (.cells #[.int .i64 0, .int .i64 0] 23))
  have KR := Lib.hid (OwnC.new3 w (.cells #[.int .i64 a1, .int .i64 a2] 23) (.cells #[.int .i64 b1, .int .i64 b2] 23) #[.int .i64 0, .int .i64 0] 23)
  have QW := bnew (bnew (bnew (Below.refl _ w) (.cells #[.int .i64 a1, .int .i64 a2] 23)) (.cells #[.int .i64 b1, .int .i64 b2] 23)) (.cells #[.int .i64 0, .int .i64 0] 23)
  generalize (((w.alloc (.cells #[.int .i64 a1, .int .i64 a2] 23)).alloc (.cells #[.int .i64 b1, .int .i64 b2] 23)).alloc (.cells #[.int .i64 0, .int .i64 0] 23)) = w3 at *
  have xA : w.heap.size ≠ w.heap.size + 1 + 1 := by omega
  have xB : w.heap.size + 1 ≠ w.heap.size + 1 + 1 := by omega
  have YA := KA
  have YB := KB
  go_region_held3 (fun w' => w'.cell? ⟨w.heap.size, 0, none⟩ = some (.int .i64 a1) ∧ w'.cell? ⟨w.heap.size, 1, none⟩ = some (.int .i64 a2) ∧ w'.cell? ⟨w.heap.size + 1, 0, none⟩ = some (.int .i64 b1) ∧ w'.cell? ⟨w.heap.size + 1, 1, none⟩ = some (.int .i64 b2) ∧ Bx (w.heap.size + 1 + 1) w3 w')
    ((refine mkX YA YB xA xB ?_; repeat' first | (with_reducible assumption) | (with_reducible exact Bx.refl _ _) | (with_reducible refine Bx.drew ?_) | (with_reducible refine Bx.set ?_)))
    ((first | (go_at_call 52; (with_reducible refine (CN.out _).mono ?_); rintro e w' ⟨rfl, hb⟩; have hx := Bx.call (getX (by assumption)) hb; (first | (have KA := Lib.hid (KA.out.below hb)) | (have KA := Lib.hid ((OwnC.drew KA.out).below hb))); (first | (have KB := Lib.hid (KB.out.below hb)) | (have KB := Lib.hid ((OwnC.drew KB.out).below hb))); (first | (have KR := Lib.hid (KR.out.below hb)) | (have KR := Lib.hid ((OwnC.drew KR.out).below hb))); (first | (have QW := bcall QW hb) | (have QW := bcall (Below.drew QW) hb)); clear hb; obtain ⟨⟨z00, z01⟩, ⟨z02, z03⟩, z04⟩ := KR.out.two) | (go_at_call 16; (with_reducible refine (CA.out _).mono ?_); rintro e w' ⟨rfl, hb⟩; have hx := Bx.call (getX (by assumption)) hb; (first | (have KA := Lib.hid (KA.out.below hb)) | (have KA := Lib.hid ((OwnC.drew KA.out).below hb))); (first | (have KB := Lib.hid (KB.out.below hb)) | (have KB := Lib.hid ((OwnC.drew KB.out).below hb))); (first | (have KR := Lib.hid (KR.out.below hb)) | (have KR := Lib.hid ((OwnC.drew KR.out).below hb))); (first | (have QW := bcall QW hb) | (have QW := bcall (Below.drew QW) hb)); clear hb; obtain ⟨⟨z00, z01⟩, ⟨z02, z03⟩, z04⟩ := KR.out.two)))
  all_goals go_wp2_with fail
  refine bodyPost_ret (v := .tuple #[.agg #[.int .i64 (R).1.1, .int .i64 (R).1.2], .int .i64 (R).2]) ?_ rfl ⟨rfl, ?_⟩
  · simp [results, Tryd.results17, go_sem, *]
  · have hBB := QW
    repeat' first | (with_reducible assumption) | (with_reducible exact Nat.le_refl _) | (with_reducible refine setB ?_ ?_) | (with_reducible refine Below.drew ?_) | (with_reducible refine bnew ?_ _) | omega
end Go.Proofs.YtinnlahmlepeeaaDoor
