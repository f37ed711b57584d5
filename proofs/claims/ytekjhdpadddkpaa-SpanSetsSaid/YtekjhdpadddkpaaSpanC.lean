/- Contracts of Within, Length (reference), ranged and result. -/
import Derived.Test.YtekjhdpadddkpaaSpanB
namespace Go.Proofs.Ytekjhdpadddkpaa
open Go.RowKit

theorem eqIv (x y : Int × Int) (w : World) : (binOp .eql 23 (.agg #[.int .i64 x.1, .int .i64 x.2]) (.agg #[.int .i64 y.1, .int .i64 y.2])).run Try.prog w = .ok (.bool (decide (x = y))) w := by
  have u3 := Try.underlying3
  have hS : Try.prog.underlying 23 = some (.struct (Try.prog.fieldsOf 23)) := by kernel_rfl
  have hp : Try.prog.stoodInHeld 23 = false := by kernel_rfl
  rw [run_eql_struct, show (10000 : Nat) = 9999 + 1 from rfl, run_equalIn_agg w 9999 23 _ _ hS hp]
  simp only [Program.fieldsOf, Try.underlying23]
  go_simp
  obtain ⟨x1, x2⟩ := x
  obtain ⟨y1, y2⟩ := y
  by_cases h1 : x1 = y1 <;> by_cases h2 : x2 = y2 <;> simp [h1, h2]

theorem keep4 {w0 w1 w2 : World} {p1 p2 p3 p4 : Addr} {v1 v2 v3 v4 : Value} (h : w1.cell? p1 = some v1 ∧ w1.cell? p2 = some v2 ∧ w1.cell? p3 = some v3 ∧ w1.cell? p4 = some v4 ∧ Below w0.heap.size w0 w1) (hb : Below w1.heap.size w1 w2) :
    w2.cell? p1 = some v1 ∧ w2.cell? p2 = some v2 ∧ w2.cell? p3 = some v3 ∧ w2.cell? p4 = some v4 ∧ Below w0.heap.size w0 w2 :=
  ⟨keepc h.1 hb, keepc h.2.1 hb, keepc h.2.2.1 hb, keepc h.2.2.2.1 hb, h.2.2.2.2.trans (hb.mono h.2.2.2.2.size)⟩

theorem ovl_within {x y : Int × Int} (h : ¬ x.2 < x.1) : decide (ovl x y = x) = withinB x y := by
  obtain ⟨x1, x2⟩ := x
  obtain ⟨y1, y2⟩ := y
  rw [Bool.eq_iff_iff]
  simp [ovl, withinB] at *
  omega

set_option maxHeartbeats 400000 in
theorem sWithin_any (x y : Int × Int) (w : World) : Calls Try.prog 15 #[.agg #[.int .i64 x.1, .int .i64 x.2], .agg #[.int .i64 y.1, .int .i64 y.2]] w fun e w' =>
    e = .returned (.bool (withinB x y)) ∧ Below w.heap.size w w' := by
  by_cases hc : x.2 < x.1
  · have hd : decide (x.2 < x.1) = true := by simpa using hc
    go_enter Try.func15, Try.ntmps15
    go_wp2_with fail
    go_quiet (fail)
    go_wp2
    go_ret
    exact ⟨ret_bool (by simp [withinB, hc]), below_drewN (((Below.refl _ _).alloc (Nat.le_refl _) _).alloc (by simp) _) _⟩
  · have hd : decide (x.2 < x.1) = false := by simpa using hc
    have hr := Lib.hid (ovl_within (y := y) hc)
    have he := fun w => eqIv (ovl x y) x w
    go_enter Try.func15, Try.ntmps15
    go_wp2_with fail
    have s0 : ((w.alloc (Obj.cells #[Value.int IntKind.i64 x.fst, Value.int IntKind.i64 x.snd] 23)).alloc (Obj.cells #[Value.int IntKind.i64 y.fst, Value.int IntKind.i64 y.snd] 23)).cell? ⟨w.heap.size, 0, none⟩ = some (.int .i64 x.1) ∧
        ((w.alloc (Obj.cells #[Value.int IntKind.i64 x.fst, Value.int IntKind.i64 x.snd] 23)).alloc (Obj.cells #[Value.int IntKind.i64 y.fst, Value.int IntKind.i64 y.snd] 23)).cell? ⟨w.heap.size, 1, none⟩ = some (.int .i64 x.2) ∧
        ((w.alloc (Obj.cells #[Value.int IntKind.i64 x.fst, Value.int IntKind.i64 x.snd] 23)).alloc (Obj.cells #[Value.int IntKind.i64 y.fst, Value.int IntKind.i64 y.snd] 23)).cell? ⟨w.heap.size + 1, 0, none⟩ = some (.int .i64 y.1) ∧
        ((w.alloc (Obj.cells #[Value.int IntKind.i64 x.fst, Value.int IntKind.i64 x.snd] 23)).alloc (Obj.cells #[Value.int IntKind.i64 y.fst, Value.int IntKind.i64 y.snd] 23)).cell? ⟨w.heap.size + 1, 1, none⟩ = some (.int .i64 y.2) ∧
        Below w.heap.size w ((w.alloc (Obj.cells #[Value.int IntKind.i64 x.fst, Value.int IntKind.i64 x.snd] 23)).alloc (Obj.cells #[Value.int IntKind.i64 y.fst, Value.int IntKind.i64 y.snd] 23)) :=
      ⟨by simp, by simp, by simp, by simp, ((Below.refl _ _).alloc (Nat.le_refl _) _).alloc (by simp) _⟩
    go_region_held3 (fun w' => w'.cell? ⟨w.heap.size, 0, none⟩ = some (.int .i64 x.1) ∧ w'.cell? ⟨w.heap.size, 1, none⟩ = some (.int .i64 x.2) ∧ w'.cell? ⟨w.heap.size + 1, 0, none⟩ = some (.int .i64 y.1) ∧ w'.cell? ⟨w.heap.size + 1, 1, none⟩ = some (.int .i64 y.2) ∧ Below w.heap.size w w') (first | exact keep4 (by assumption) hb | exact ⟨s0.1, s0.2.1, s0.2.2.1, s0.2.2.2.1, s0.2.2.2.2.drew⟩) ((go_at_call 42; refine (overlap_any x y _).mono ?_; rintro e w' ⟨rfl, hb⟩))
    go_wp2
    rename_i hS
    go_ret
    exact ⟨ret_bool hr.out, hS.2.2.2.2⟩

theorem rLength_any (x : Int × Int) (w : World) : Calls Try.prog 18 #[.agg #[.int .i64 x.1, .int .i64 x.2]] w fun e w' => e = .returned (.int .i64 (lenI x)) ∧ Below w.heap.size w w' := by
  rcases errAll1 x with ⟨h0, h1, h2⟩ | ⟨h0, h1⟩
  · obtain ⟨b1, b2, b3, b4⟩ := (inR_iff x).1 h1
    have H : Hid (lenI x = x.2 - x.1 + 1) := Lib.hid (by simp [lenI, h0])
    have hc : ∀ w, Calls Try.prog 12 #[.agg #[.int .i64 x.1, .int .i64 x.2]] w fun e w' => e = .returned (.int .i64 0) ∧ Below w.heap.size w w' := fun w => h0 ▸ rCheck_any x w
    have HC := Lib.hid hc
    clear hc h0 h1
    go_enter Try.func18, Try.ntmps18
    go_wp2_with fail
    refine (HC.out _).mono ?_
    rintro e w' ⟨rfl, hb⟩
    have c1 := hb.cell (p := ⟨w.heap.size, 0, none⟩) (by simp)
    have c2 := hb.cell (p := ⟨w.heap.size, 1, none⟩) (by simp)
    simp at c1 c2
    go_wp2_with fail
    go_ret
    exact ⟨ret_int H.out.symm, ((Below.refl _ _).alloc (Nat.le_refl _) _).trans (hb.mono (by simp))⟩
  · have H := Lib.hid h1
    have hne : (errAll [x] != 0) = true := by simpa using h0
    have hc := fun w => rCheck_any x w
    have HC := Lib.hid hc
    clear hc h0 h1
    go_enter Try.func18, Try.ntmps18
    go_wp2_with fail
    refine (HC.out _).mono ?_
    rintro e w' ⟨rfl, hb⟩
    go_wp2_with fail
    go_ret
    exact ⟨ret_int H.out.symm, ((Below.refl _ _).alloc (Nat.le_refl _) _).trans (hb.mono (by simp))⟩

/-- What ranged and result give. -/
def rngd (x : Int × Int) : (Int × Int) × Int := if inR x then (x, 0) else ((0, 0), 6)
theorem ranged_any (x : Int × Int) (w : World) : Calls Try.prog 43 #[.agg #[.int .i64 x.1, .int .i64 x.2]] w fun e w' =>
    e = .returned (.tuple #[.agg #[.int .i64 (rngd x).1.1, .int .i64 (rngd x).1.2], .int .i64 (rngd x).2]) ∧ Below w.heap.size w w' := by
  rcases hin : inR x with _ | _
  · have HI := Lib.hid hin
    clear hin
    go_enter Try.func43, Try.ntmps43
    go_wp2_with (go_at_call 51; refine (inRange_is false x HI _).mono ?_; rintro e w' ⟨rfl, rfl⟩)
    refine bodyPost_ret (v := .tuple #[.agg #[.int .i64 0, .int .i64 0], .int .i64 6]) ?_ rfl ⟨by simp [rngd, HI.out], ?_⟩
    · simp [results, Try.results43, go_sem]
    · exact ((((Below.refl _ _).alloc (Nat.le_refl _) _).alloc (by simp) _).alloc (by simp; omega) _)
  · have HI := Lib.hid hin
    clear hin
    go_enter Try.func43, Try.ntmps43
    go_wp2_with (go_at_call 51; refine (inRange_is true x HI _).mono ?_; rintro e w' ⟨rfl, rfl⟩)
    refine bodyPost_ret (v := .tuple #[.agg #[.int .i64 x.1, .int .i64 x.2], .int .i64 0]) ?_ rfl ⟨by simp [rngd, HI.out], ?_⟩
    · simp [results, Try.results43, go_sem]
    · exact ((((Below.refl _ _).alloc (Nat.le_refl _) _).alloc (by simp) _).alloc (by simp; omega) _)
theorem rresult_any (x : Int × Int) (w : World) : Calls Try.prog 44 #[.agg #[.int .i64 x.1, .int .i64 x.2]] w fun e w' =>
    e = .returned (.tuple #[.agg #[.int .i64 (rngd x).1.1, .int .i64 (rngd x).1.2], .int .i64 (rngd x).2]) ∧ Below w.heap.size w w' := by
  rcases hin : inR x with _ | _
  · have HI : Hid (inR x = !true) := Lib.hid hin
    clear hin
    go_enter Try.func44, Try.ntmps44
    go_wp2_with (go_at_call 52; refine (outside_is true x HI _).mono ?_; rintro e w' ⟨rfl, rfl⟩)
    refine bodyPost_ret (v := .tuple #[.agg #[.int .i64 0, .int .i64 0], .int .i64 6]) ?_ rfl ⟨by have h := HI.out; simp at h; simp [rngd, h], ?_⟩
    · simp [results, Try.results44, go_sem]
    · exact ((((Below.refl _ _).alloc (Nat.le_refl _) _).alloc (by simp) _).alloc (by simp; omega) _)
  · have HI : Hid (inR x = !false) := Lib.hid hin
    clear hin
    go_enter Try.func44, Try.ntmps44
    go_wp2_with (go_at_call 52; refine (outside_is false x HI _).mono ?_; rintro e w' ⟨rfl, rfl⟩)
    refine bodyPost_ret (v := .tuple #[.agg #[.int .i64 x.1, .int .i64 x.2], .int .i64 0]) ?_ rfl ⟨by have h := HI.out; simp at h; simp [rngd, h], ?_⟩
    · simp [results, Try.results44, go_sem]
    · exact ((((Below.refl _ _).alloc (Nat.le_refl _) _).alloc (by simp) _).alloc (by simp; omega) _)
end Go.Proofs.Ytekjhdpadddkpaa
