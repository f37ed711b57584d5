/- The contract of ranged. -/
import Derived.Test.YtiehbakloldkcaaVecB
import Derived.Test.YtiehbakloldkcaaVecC
namespace Go.Proofs.Ytiehbakloldkcaa
open Go.RowKit
/-- What ranged gives. -/
def rngV (x : V3) : V3 × Int := if inV x then (x, 0) else ((0, 0, 0), 6)
theorem errV1 (x : V3) : errV [x] = if inV x then 0 else 6 := by simp [errV]
def At3 (w : World) (b : Nat) (x : V3) : Prop := w.cell? ⟨b, 0, none⟩ = some (.int .i64 x.1) ∧ w.cell? ⟨b, 1, none⟩ = some (.int .i64 x.2.1) ∧ w.cell? ⟨b, 2, none⟩ = some (.int .i64 x.2.2)
theorem At3.new (w : World) (t : TypeId) (x : V3) : At3 (w.alloc (.cells #[.int .i64 x.1, .int .i64 x.2.1, .int .i64 x.2.2] t)) w.heap.size x := ⟨cnew w _ t 0 _ rfl, cnew w _ t 1 _ rfl, cnew w _ t 2 _ rfl⟩
theorem At3.new2 (w : World) (o : Obj) (t : TypeId) (x : V3) : At3 ((w.alloc o).alloc (.cells #[.int .i64 x.1, .int .i64 x.2.1, .int .i64 x.2.2] t)) (w.heap.size + 1) x := ⟨cnew2 w o _ t 0 _ rfl, cnew2 w o _ t 1 _ rfl, cnew2 w o _ t 2 _ rfl⟩
theorem At3.new3 (w : World) (o o' : Obj) (t : TypeId) (x : V3) : At3 (((w.alloc o).alloc o').alloc (.cells #[.int .i64 x.1, .int .i64 x.2.1, .int .i64 x.2.2] t)) (w.heap.size + 1 + 1) x := by
  have := At3.new2 (w.alloc o) o' t x
  rwa [sz1] at this
theorem At3.new4 (w : World) (o o' o2 : Obj) (t : TypeId) (x : V3) : At3 ((((w.alloc o).alloc o').alloc o2).alloc (.cells #[.int .i64 x.1, .int .i64 x.2.1, .int .i64 x.2.2] t)) (w.heap.size + 1 + 1 + 1) x := by
  have := At3.new3 (w.alloc o) o' o2 t x
  rwa [sz1] at this
theorem At3.old {w : World} {b : Nat} {x : V3} (h : At3 w b x) (o : Obj) : At3 (w.alloc o) b x := ⟨keepa h.1 o, keepa h.2.1 o, keepa h.2.2 o⟩
theorem At3.below {w w' : World} {b : Nat} {x : V3} (h : At3 w b x) (hb : Below w.heap.size w w') : At3 w' b x := ⟨keepc h.1 hb, keepc h.2.1 hb, keepc h.2.2 hb⟩
theorem At3.lt {w : World} {b : Nat} {x : V3} (h : At3 w b x) : b < w.heap.size := lt_of_cell h.1
set_option maxHeartbeats 400000 in
theorem ranged_any (x : V3) (w : World) : Calls Try.prog 38 #[.agg #[.int .i64 x.1, .int .i64 x.2.1, .int .i64 x.2.2]] w fun e w' =>
    e = .returned (.tuple #[.agg #[.int .i64 (rngV x).1.1, .int .i64 (rngV x).1.2.1, .int .i64 (rngV x).1.2.2], .int .i64 (rngV x).2]) ∧ Below w.heap.size w w' := by
  have Z0 := Lib.hid (Zed.new2 w (.cells #[.int .i64 x.1, .int .i64 x.2.1, .int .i64 x.2.2] 36) 23)
  rcases hin : inV x with _ | _
  · have HI := Lib.hid hin
    have hc : ∀ w, Calls Try.prog 15 #[.agg #[.int .i64 x.1, .int .i64 x.2.1, .int .i64 x.2.2]] w fun e w' => e = .returned (.int .i64 6) ∧ Below w.heap.size w w' := fun w => by have := vCheck_any x w; rwa [errV1, hin] at this
    have HC := Lib.hid hc
    clear hin hc
    go_enter Try.func38, Try.ntmps38
    go_wp2_with fail
    (with_reducible refine (joined_any x _).mono ?_)
    rintro e w1 ⟨rfl, hb⟩
    have Z1 := Lib.hid (Zed.below Z0.out hb)
    have hbb := bcall (b2 _ _ _) hb
    clear hb Z0
    go_wp2_with fail
    refine (HC.out _).mono ?_
    rintro e w2 ⟨rfl, hb2⟩
    obtain ⟨⟨ra0, ra1, ra2⟩, ⟨ra3, ra4, ra5⟩, ra6⟩ := Zed.below (Zed.old Z1.out _) hb2
    have hb3 := bcall (bnew hbb _) hb2
    clear hb2 hbb
    go_wp2_with fail
    refine bodyPost_ret (v := .tuple #[.agg #[.int .i64 0, .int .i64 0, .int .i64 0], .int .i64 6]) ?_ rfl ⟨by simp [rngV, HI.out], ?_⟩
    · simp [results, Try.results38, go_sem, *]
    · exact ((hb3.setCell (Nat.le_succ _) _).setCell (Nat.le_succ _) _).setCell (Nat.le_succ _) _
  · have HI := Lib.hid hin
    have hc : ∀ w, Calls Try.prog 15 #[.agg #[.int .i64 x.1, .int .i64 x.2.1, .int .i64 x.2.2]] w fun e w' => e = .returned (.int .i64 0) ∧ Below w.heap.size w w' := fun w => by have := vCheck_any x w; rwa [errV1, hin] at this
    have HC := Lib.hid hc
    clear hin hc
    go_enter Try.func38, Try.ntmps38
    go_wp2_with fail
    (with_reducible refine (joined_any x _).mono ?_)
    rintro e w1 ⟨rfl, hb⟩
    have Z1 := Lib.hid (Zed.below Z0.out hb)
    have hbb := bcall (b2 _ _ _) hb
    clear hb Z0
    go_wp2_with fail
    refine (HC.out _).mono ?_
    rintro e w2 ⟨rfl, hb2⟩
    obtain ⟨⟨ra0, ra1, ra2⟩, ⟨ra3, ra4, ra5⟩, ra6⟩ := Zed.below (Zed.old Z1.out _) hb2
    obtain ⟨rc0, rc1, rc2⟩ := At3.below (At3.new w1 23 x) hb2
    have hb3 := bcall (bnew hbb _) hb2
    clear hb2 hbb
    go_wp2_with fail
    refine bodyPost_ret (v := .tuple #[.agg #[.int .i64 x.1, .int .i64 x.2.1, .int .i64 x.2.2], .int .i64 0]) ?_ rfl ⟨by simp [rngV, HI.out], ?_⟩
    · simp [results, Try.results38, go_sem, *]
    · exact ((hb3.setCell (Nat.le_succ _) _).setCell (Nat.le_succ _) _).setCell (Nat.le_succ _) _
end Go.Proofs.Ytiehbakloldkcaa
