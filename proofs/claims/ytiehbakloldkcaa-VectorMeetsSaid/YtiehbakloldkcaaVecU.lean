/- The reference's order of points; the case of a point in the count of common points. -/
import Derived.Test.YtiehbakloldkcaaVecWd
import Derived.Test.YtiehbakloldkcaaVecWa
import Derived.Test.YtiehbakloldkcaaVecN
import Derived.RegionTactic
namespace Go.Proofs.Ytiehbakloldkcaa
open Go.RowKit
attribute [local go_sem ↓] Go.wp_at_zero Go.wp_at_succ
theorem rbefore_any (p q : P2) (w : World) : Calls Try.prog 53 #[.agg #[.int .i64 p.1, .int .i64 p.2], .agg #[.int .i64 q.1, .int .i64 q.2]] w fun e w' => e = .returned (.bool (bef p q)) ∧ Below w.heap.size w w' := by
  have HV := Lib.hid (bef_iff p q)
  by_cases e1 : p.1 = q.1
  · have t1 : (p.1 == q.1) = true := by simp [e1]
    have t2 : decide (p.1 < q.1) = false := by simp [e1]
    have E1 := Lib.hid e1
    clear e1
    go_enter Try.func53, Try.ntmps53
    go_wp2
    all_goals
      go_ret
      exact ⟨ret_bool (by rw [Bool.eq_iff_iff, HV.out]; simp [E1.out]), b2 _ _ _⟩
  · have t1 : (p.1 == q.1) = false := by simp [e1]
    have E1 := Lib.hid e1
    clear e1
    go_enter Try.func53, Try.ntmps53
    go_wp2
    all_goals
      go_ret
      exact ⟨ret_bool (by rw [Bool.eq_iff_iff, HV.out]; simp [E1.out]; try omega), b2 _ _ _⟩
/-- The two cells at block b are x, and may be written. -/
def Own2 (w : World) (b : Nat) (x : P2) : Prop := At2 w b x ∧ (w.frozen? ⟨b, 0, none⟩ = false ∧ w.frozen? ⟨b, 1, none⟩ = false)
theorem Own2.new (w : World) (t : TypeId) (x : P2) : Own2 (w.alloc (.cells #[.int .i64 x.1, .int .i64 x.2] t)) w.heap.size x := ⟨At2.new w t x, fnew w _ t 0, fnew w _ t 1⟩
theorem Own2.new2 (w : World) (o : Obj) (t : TypeId) (x : P2) : Own2 ((w.alloc o).alloc (.cells #[.int .i64 x.1, .int .i64 x.2] t)) (w.heap.size + 1) x := ⟨At2.new2 w o t x, fnew2 w o _ t 0, fnew2 w o _ t 1⟩
theorem Own2.new3 (w : World) (o o' : Obj) (t : TypeId) (x : P2) : Own2 (((w.alloc o).alloc o').alloc (.cells #[.int .i64 x.1, .int .i64 x.2] t)) (w.heap.size + 1 + 1) x := by
  have := Own2.new2 (w.alloc o) o' t x
  rwa [sz1] at this
theorem Own2.new4 (w : World) (o o' o2 : Obj) (t : TypeId) (x : P2) : Own2 ((((w.alloc o).alloc o').alloc o2).alloc (.cells #[.int .i64 x.1, .int .i64 x.2] t)) (w.heap.size + 1 + 1 + 1) x := by
  have := Own2.new3 (w.alloc o) o' o2 t x
  rwa [sz1] at this
theorem Own2.old {w : World} {b : Nat} {x : P2} (h : Own2 w b x) (o : Obj) : Own2 (w.alloc o) b x := ⟨h.1.old o, keepfa h.2.1 h.1.lt o, keepfa h.2.2 h.1.lt o⟩
theorem Own2.below {w w' : World} {b : Nat} {x : P2} (h : Own2 w b x) (hb : Below w.heap.size w w') : Own2 w' b x := ⟨h.1.below hb, keepf h.1.1 h.2.1 hb, keepf h.1.2 h.2.2 hb⟩
theorem Own2.set {w : World} {g k b : Nat} {v : Value} {x : P2} (hne : g ≠ b) (h : Own2 w b x) : Own2 (w.setCell ⟨g, k, none⟩ v) b x := ⟨⟨setc hne h.1.1, setc hne h.1.2⟩, setf h.2.1, setf h.2.2⟩
theorem Own2.drew {w : World} {b : Nat} {x : P2} (h : Own2 w b x) : Own2 w.drew b x := h
/-- Both cells are stored. -/
theorem Own2.put {w : World} {b : Nat} {x y : P2} (h : Own2 w b x) : Own2 ((w.setCell ⟨b, 0, none⟩ (.int .i64 y.1)).setCell ⟨b, 1, none⟩ (.int .i64 y.2)) b y := by
  have e : (⟨b, 1, none⟩ : Addr) ≠ ⟨b, 0, none⟩ := fun e => by injection e with _ e; omega
  have h1 : (w.setCell ⟨b, 0, none⟩ (.int .i64 y.1)).cell? ⟨b, 1, none⟩ = some (.int .i64 x.2) := (World.cell?_setCell_other w _ _ _ (Ne.symm e)).trans h.1.2
  exact ⟨⟨(World.cell?_setCell_other _ _ _ _ e).trans (World.cell?_setCell_same w _ _ h.1.1), World.cell?_setCell_same _ _ _ h1⟩, setf (setf h.2.1), setf (setf h.2.2)⟩
theorem sort2 (p q : P2) : (bef q p = true ∧ fst2 p q = q ∧ lst2 p q = p) ∨ (bef q p = false ∧ fst2 p q = p ∧ lst2 p q = q) := by
  unfold fst2 lst2
  rcases h : bef q p with _ | _
  · right
    rcases h' : bef p q with _ | _
    · have : p = q := by rw [bef_no] at h h'; exact Prod.ext (by omega) (by omega)
      subst this; exact ⟨rfl, rfl, rfl⟩
    · exact ⟨rfl, rfl, rfl⟩
  · left
    have h' : bef p q = false := by rw [bef_iff] at h; rw [bef_no]; omega
    rw [h']; exact ⟨rfl, rfl, rfl⟩
theorem rsorted_any (p q : P2) (w : World) : Calls Try.prog 52 #[.agg #[.int .i64 p.1, .int .i64 p.2], .agg #[.int .i64 q.1, .int .i64 q.2]] w fun e w' =>
    e = .returned (.tuple #[.agg #[.int .i64 (fst2 p q).1, .int .i64 (fst2 p q).2], .agg #[.int .i64 (lst2 p q).1, .int .i64 (lst2 p q).2]]) ∧ Below w.heap.size w w' := by
  have CB : Hid (∀ w, Calls Try.prog 53 #[.agg #[.int .i64 q.1, .int .i64 q.2], .agg #[.int .i64 p.1, .int .i64 p.2]] w fun e w' => e = .returned (.bool (bef q p)) ∧ Below w.heap.size w w') := Lib.hid fun w => rbefore_any q p w
  have A0 := Lib.hid ((((At2.new w 46 p).old (.cells #[.int .i64 q.1, .int .i64 q.2] 46)).old (.cells #[.int .i64 0, .int .i64 0] 46)).old (.cells #[.int .i64 0, .int .i64 0] 46))
  have A1 := Lib.hid (((At2.new2 w (.cells #[.int .i64 p.1, .int .i64 p.2] 46) 46 q).old (.cells #[.int .i64 0, .int .i64 0] 46)).old (.cells #[.int .i64 0, .int .i64 0] 46))
  have O2 := Lib.hid ((Own2.new3 w (.cells #[.int .i64 p.1, .int .i64 p.2] 46) (.cells #[.int .i64 q.1, .int .i64 q.2] 46) 46 (0, 0)).old (.cells #[.int .i64 0, .int .i64 0] 46))
  have O3 := Lib.hid (Own2.new4 w (.cells #[.int .i64 p.1, .int .i64 p.2] 46) (.cells #[.int .i64 q.1, .int .i64 q.2] 46) (.cells #[.int .i64 0, .int .i64 0] 46) 46 (0, 0))
  have hb0 := b4 w (.cells #[.int .i64 p.1, .int .i64 p.2] 46) (.cells #[.int .i64 q.1, .int .i64 q.2] 46) (.cells #[.int .i64 0, .int .i64 0] 46) (.cells #[.int .i64 0, .int .i64 0] 46)
  have K := sort2 p q
  generalize fst2 p q = f at *
  generalize lst2 p q = l at *
  rcases K with ⟨k1, k2, k3⟩ | ⟨k1, k2, k3⟩
  all_goals
    subst k2
    subst k3
    rw [k1] at CB
    clear k1
    go_enter Try.func52, Try.ntmps52
    go_wp2_with fail
    (with_reducible refine (CB.out _).mono ?_)
    rintro e w1 ⟨rfl, hb⟩
    obtain ⟨q1, q2⟩ := A0.out.below hb
    obtain ⟨q3, q4⟩ := A1.out.below hb
    obtain ⟨⟨r1, r2⟩, r3, r4⟩ := O2.out.below hb
    obtain ⟨⟨s1, s2⟩, s3, s4⟩ := O3.out.below hb
    have hbb := bcall hb0 hb
    clear hb hb0 A0 A1 O2 O3 CB
    go_wp2_with fail
    go_region
    all_goals go_wp2_with fail
  · refine bodyPost_ret (v := .tuple #[.agg #[.int .i64 f.1, .int .i64 f.2], .agg #[.int .i64 l.1, .int .i64 l.2]]) ?_ rfl ⟨rfl, ?_⟩
    · simp [results, Try.results52, go_sem, *]
    · repeat' first | (with_reducible assumption) | (with_reducible refine Below.drew ?_) | (with_reducible refine setB ?_ ?_) | omega
  · refine bodyPost_ret (v := .tuple #[.agg #[.int .i64 f.1, .int .i64 f.2], .agg #[.int .i64 l.1, .int .i64 l.2]]) ?_ rfl ⟨rfl, ?_⟩
    · simp [results, Try.results52, go_sem, *]
    · repeat' first | (with_reducible assumption) | (with_reducible refine Below.drew ?_) | (with_reducible refine setB ?_ ?_) | omega
end Go.Proofs.Ytiehbakloldkcaa
