/- Add, Sub, Intersect, Hull, of span and of its reference. -/
import Derived.Test.YtekjhdpadddkpaaSpanI
namespace Go.Proofs.Ytekjhdpadddkpaa
open Go.RowKit

def subR (x y : Int × Int) : (Int × Int) × Int := if errAll [x, y] = 0 then rngd (x.1 - y.2, x.2 - y.1) else ((0, 0), errAll [x, y])
def itsR (x y : Int × Int) : (Int × Int) × Int := if errAll [x, y] = 0 then (if (ovl x y).2 < (ovl x y).1 then ((0, 0), 9) else (ovl x y, 0)) else ((0, 0), errAll [x, y])
def hulR (x y : Int × Int) : (Int × Int) × Int := if errAll [x, y] = 0 then ((if x.1 < y.1 then x.1 else y.1, if x.2 < y.2 then y.2 else x.2), 0) else ((0, 0), errAll [x, y])
theorem errAll_two {x y : Int × Int} (h : errAll [x, y] = 0) : inR x = true ∧ inR y = true := by
  have : err1 [x, y] = 0 := by simp [err1, h]
  have := (err1_ok this).2.1
  exact ⟨this x (by simp), this y (by simp)⟩

set_option maxHeartbeats 1600000 in
theorem sAdd_any (x y : Int × Int) (w : World) : Calls Try.prog 19 #[.agg #[.int .i64 x.1, .int .i64 x.2], .agg #[.int .i64 y.1, .int .i64 y.2]] w fun e w' =>
    e = .returned (.tuple #[.agg #[.int .i64 (sumR [x, y]).1.1, .int .i64 (sumR [x, y]).1.2], .int .i64 (sumR [x, y]).2]) ∧ Below w.heap.size w w' := by
  go_enter Try.func19, Try.ntmps19
  go_wp2_with fail
  refine (sSum_any _ 2 _ [x, y] _ (RdI.of2 ?_ ?_ ?_ ?_ ?_) (Lib.hid rfl)).mono ?_
  · go_simp
  · go_simp
  · go_simp
  · go_simp
  · go_simp
  rintro e w1 ⟨rfl, hb1⟩
  have hb1' : Below w.heap.size w w1 := ((((Below.refl _ _).alloc (Nat.le_refl _) _).alloc (by simp) _).alloc (by simp; omega) _ |>.alloc (by simp; omega) _).trans (hb1.mono (by simp; omega))
  have k1 := keepc (p := ⟨w.heap.size + 2, 0, none⟩) (v := .int .i64 0) (by go_simp) hb1
  have k2 := keepc (p := ⟨w.heap.size + 2, 1, none⟩) (v := .int .i64 0) (by go_simp) hb1
  have k3 := keepf (p := ⟨w.heap.size + 2, 0, none⟩) (v := .int .i64 0) (by go_simp) (by go_simp) hb1
  have k4 := keepf (p := ⟨w.heap.size + 2, 1, none⟩) (v := .int .i64 0) (by go_simp) (by go_simp) hb1
  clear hb1
  go_wp2_with fail
  refine bodyPost_ret (v := .tuple #[.agg #[.int .i64 (sumR [x, y]).1.1, .int .i64 (sumR [x, y]).1.2], .int .i64 (sumR [x, y]).2]) ?_ rfl ⟨rfl, ?_⟩
  · simp [results, Try.results19, go_sem, k1, k2]
  · exact (hb1'.setCell (show w.heap.size ≤ w.heap.size + 2 by omega) _).setCell (show w.heap.size ≤ w.heap.size + 2 by omega) _

set_option maxHeartbeats 1600000 in
theorem sSub_any (x y : Int × Int) (w : World) : Calls Try.prog 20 #[.agg #[.int .i64 x.1, .int .i64 x.2], .agg #[.int .i64 y.1, .int .i64 y.2]] w fun e w' =>
    e = .returned (.tuple #[.agg #[.int .i64 (subR x y).1.1, .int .i64 (subR x y).1.2], .int .i64 (subR x y).2]) ∧ Below w.heap.size w w' := by
  by_cases he : errAll [x, y] = 0
  · obtain ⟨i1, i2⟩ := errAll_two he
    have b1 := (inR_iff x).1 i1
    have b2 := (inR_iff y).1 i2
    have HE := Lib.hid he
    have hval : Hid (subR x y = rngd (x.1 - y.2, x.2 - y.1)) := Lib.hid (by simp [subR, he])
    clear he i1 i2
    go_enter Try.func20, Try.ntmps20
    go_wp2_with fail
    refine (checkAll_any _ 2 _ [x, y] _ (RdI.of2 ?_ ?_ ?_ ?_ ?_) (Lib.hid rfl) ?_).mono ?_
    · go_simp
    · go_simp
    · go_simp
    · go_simp
    · go_simp
    · simp [maxLen]
    rintro e w1 ⟨rfl, hb1⟩
    have hb1' : Below w.heap.size w w1 := ((((Below.refl _ _).alloc (Nat.le_refl _) _).alloc (by simp) _).alloc (by simp; omega) _ |>.alloc (by simp; omega) _).trans (hb1.mono (by simp; omega))
    have x1 := keepc (p := ⟨w.heap.size, 0, none⟩) (v := .int .i64 x.1) (by go_simp) hb1
    have x2 := keepc (p := ⟨w.heap.size, 1, none⟩) (v := .int .i64 x.2) (by go_simp) hb1
    have y1 := keepc (p := ⟨w.heap.size + 1, 0, none⟩) (v := .int .i64 y.1) (by go_simp) hb1
    have y2 := keepc (p := ⟨w.heap.size + 1, 1, none⟩) (v := .int .i64 y.2) (by go_simp) hb1
    have k1 := keepc (p := ⟨w.heap.size + 2, 0, none⟩) (v := .int .i64 0) (by go_simp) hb1
    have k2 := keepc (p := ⟨w.heap.size + 2, 1, none⟩) (v := .int .i64 0) (by go_simp) hb1
    have k3 := keepf (p := ⟨w.heap.size + 2, 0, none⟩) (v := .int .i64 0) (by go_simp) (by go_simp) hb1
    have k4 := keepf (p := ⟨w.heap.size + 2, 1, none⟩) (v := .int .i64 0) (by go_simp) (by go_simp) hb1
    have hz1 : w.heap.size + 3 < w1.heap.size := by have := hb1.size; simp at this; omega
    clear hb1
    rw [HE.out]
    have hc := fun w => ranged_any (x.1 - y.2, x.2 - y.1) w
    have HC := Lib.hid hc
    clear hc
    go_wp2_with fail
    refine (HC.out _).mono ?_
    rintro e w2 ⟨rfl, hb2⟩
    have q1 := keepc k1 hb2
    have q2 := keepc k2 hb2
    have q3 := keepf k1 k3 hb2
    have q4 := keepf k2 k4 hb2
    clear k1 k2 k3 k4 x1 x2 y1 y2
    rw [← hval.out]
    go_wp2_with fail
    refine bodyPost_ret (v := .tuple #[.agg #[.int .i64 (subR x y).1.1, .int .i64 (subR x y).1.2], .int .i64 (subR x y).2]) ?_ rfl ⟨rfl, ?_⟩
    · simp [results, Try.results20, go_sem, q1, q2]
    · exact ((hb1'.trans (hb2.mono (by omega))).setCell (show w.heap.size ≤ w.heap.size + 2 by omega) _).setCell (show w.heap.size ≤ w.heap.size + 2 by omega) _
  · have hval : Hid (subR x y = ((0, 0), errAll [x, y])) := Lib.hid (by simp [subR, he])
    have hne : (errAll [x, y] != 0) = true := by simpa using he
    have hne' : (errAll [x, y] == 0) = false := by simpa using he
    clear he
    go_enter Try.func20, Try.ntmps20
    go_wp2_with fail
    refine (checkAll_any _ 2 _ [x, y] _ (RdI.of2 ?_ ?_ ?_ ?_ ?_) (Lib.hid rfl) ?_).mono ?_
    · go_simp
    · go_simp
    · go_simp
    · go_simp
    · go_simp
    · simp [maxLen]
    rintro e w1 ⟨rfl, hb1⟩
    have hb1' : Below w.heap.size w w1 := ((((Below.refl _ _).alloc (Nat.le_refl _) _).alloc (by simp) _).alloc (by simp; omega) _ |>.alloc (by simp; omega) _).trans (hb1.mono (by simp; omega))
    have k1 := keepc (p := ⟨w.heap.size + 2, 0, none⟩) (v := .int .i64 0) (by go_simp) hb1
    have k2 := keepc (p := ⟨w.heap.size + 2, 1, none⟩) (v := .int .i64 0) (by go_simp) hb1
    have k3 := keepf (p := ⟨w.heap.size + 2, 0, none⟩) (v := .int .i64 0) (by go_simp) (by go_simp) hb1
    have k4 := keepf (p := ⟨w.heap.size + 2, 1, none⟩) (v := .int .i64 0) (by go_simp) (by go_simp) hb1
    clear hb1
    go_wp2_with fail
    refine bodyPost_ret (v := .tuple #[.agg #[.int .i64 0, .int .i64 0], .int .i64 (errAll [x, y])]) ?_ rfl ⟨by rw [hval.out], ?_⟩
    · simp [results, Try.results20, go_sem, k1, k2]
    · exact (hb1'.setCell (show w.heap.size ≤ w.heap.size + 2 by omega) _).setCell (show w.heap.size ≤ w.heap.size + 2 by omega) _

set_option maxHeartbeats 1600000 in
theorem sHull_any (x y : Int × Int) (w : World) : Calls Try.prog 22 #[.agg #[.int .i64 x.1, .int .i64 x.2], .agg #[.int .i64 y.1, .int .i64 y.2]] w fun e w' =>
    e = .returned (.tuple #[.agg #[.int .i64 (hulR x y).1.1, .int .i64 (hulR x y).1.2], .int .i64 (hulR x y).2]) ∧ Below w.heap.size w w' := by
  by_cases he : errAll [x, y] = 0
  · obtain ⟨i1, i2⟩ := errAll_two he
    have b1 := (inR_iff x).1 i1
    have b2 := (inR_iff y).1 i2
    have HE := Lib.hid he
    have hval : Hid (hulR x y = ((if x.1 < y.1 then x.1 else y.1, if x.2 < y.2 then y.2 else x.2), 0)) := Lib.hid (by simp [hulR, he])
    clear he i1 i2
    go_enter Try.func22, Try.ntmps22
    go_wp2_with fail
    refine (checkAll_any _ 2 _ [x, y] _ (RdI.of2 ?_ ?_ ?_ ?_ ?_) (Lib.hid rfl) ?_).mono ?_
    · go_simp
    · go_simp
    · go_simp
    · go_simp
    · go_simp
    · simp [maxLen]
    rintro e w1 ⟨rfl, hb1⟩
    have hb1' : Below w.heap.size w w1 := ((((Below.refl _ _).alloc (Nat.le_refl _) _).alloc (by simp) _).alloc (by simp; omega) _ |>.alloc (by simp; omega) _).trans (hb1.mono (by simp; omega))
    have x1 := keepc (p := ⟨w.heap.size, 0, none⟩) (v := .int .i64 x.1) (by go_simp) hb1
    have x2 := keepc (p := ⟨w.heap.size, 1, none⟩) (v := .int .i64 x.2) (by go_simp) hb1
    have y1 := keepc (p := ⟨w.heap.size + 1, 0, none⟩) (v := .int .i64 y.1) (by go_simp) hb1
    have y2 := keepc (p := ⟨w.heap.size + 1, 1, none⟩) (v := .int .i64 y.2) (by go_simp) hb1
    have k1 := keepc (p := ⟨w.heap.size + 2, 0, none⟩) (v := .int .i64 0) (by go_simp) hb1
    have k2 := keepc (p := ⟨w.heap.size + 2, 1, none⟩) (v := .int .i64 0) (by go_simp) hb1
    have k3 := keepf (p := ⟨w.heap.size + 2, 0, none⟩) (v := .int .i64 0) (by go_simp) (by go_simp) hb1
    have k4 := keepf (p := ⟨w.heap.size + 2, 1, none⟩) (v := .int .i64 0) (by go_simp) (by go_simp) hb1
    have hz1 : w.heap.size + 3 < w1.heap.size := by have := hb1.size; simp at this; omega
    clear hb1
    rw [HE.out]
    go_wp2
    all_goals
      refine bodyPost_ret (v := .tuple #[.agg #[.int .i64 (if x.1 < y.1 then x.1 else y.1), .int .i64 (if x.2 < y.2 then y.2 else x.2)], .int .i64 0]) ?_ rfl ⟨by rw [hval.out], ?_⟩
      · simp [results, Try.results22, go_sem, k1, k2]
        omega
      · exact (hb1'.setCell (show w.heap.size ≤ w.heap.size + 2 by omega) _).setCell (show w.heap.size ≤ w.heap.size + 2 by omega) _
  · have hval : Hid (hulR x y = ((0, 0), errAll [x, y])) := Lib.hid (by simp [hulR, he])
    have hne : (errAll [x, y] != 0) = true := by simpa using he
    have hne' : (errAll [x, y] == 0) = false := by simpa using he
    clear he
    go_enter Try.func22, Try.ntmps22
    go_wp2_with fail
    refine (checkAll_any _ 2 _ [x, y] _ (RdI.of2 ?_ ?_ ?_ ?_ ?_) (Lib.hid rfl) ?_).mono ?_
    · go_simp
    · go_simp
    · go_simp
    · go_simp
    · go_simp
    · simp [maxLen]
    rintro e w1 ⟨rfl, hb1⟩
    have hb1' : Below w.heap.size w w1 := ((((Below.refl _ _).alloc (Nat.le_refl _) _).alloc (by simp) _).alloc (by simp; omega) _ |>.alloc (by simp; omega) _).trans (hb1.mono (by simp; omega))
    have k1 := keepc (p := ⟨w.heap.size + 2, 0, none⟩) (v := .int .i64 0) (by go_simp) hb1
    have k2 := keepc (p := ⟨w.heap.size + 2, 1, none⟩) (v := .int .i64 0) (by go_simp) hb1
    have k3 := keepf (p := ⟨w.heap.size + 2, 0, none⟩) (v := .int .i64 0) (by go_simp) (by go_simp) hb1
    have k4 := keepf (p := ⟨w.heap.size + 2, 1, none⟩) (v := .int .i64 0) (by go_simp) (by go_simp) hb1
    clear hb1
    go_wp2_with fail
    refine bodyPost_ret (v := .tuple #[.agg #[.int .i64 0, .int .i64 0], .int .i64 (errAll [x, y])]) ?_ rfl ⟨by rw [hval.out], ?_⟩
    · simp [results, Try.results22, go_sem, k1, k2]
    · exact (hb1'.setCell (show w.heap.size ≤ w.heap.size + 2 by omega) _).setCell (show w.heap.size ≤ w.heap.size + 2 by omega) _

set_option maxHeartbeats 1600000 in
theorem rAdd_any (x y : Int × Int) (w : World) : Calls Try.prog 23 #[.agg #[.int .i64 x.1, .int .i64 x.2], .agg #[.int .i64 y.1, .int .i64 y.2]] w fun e w' =>
    e = .returned (.tuple #[.agg #[.int .i64 (sumR [x, y]).1.1, .int .i64 (sumR [x, y]).1.2], .int .i64 (sumR [x, y]).2]) ∧ Below w.heap.size w w' := by
  go_enter Try.func23, Try.ntmps23
  go_wp2_with fail
  refine (rSum_any _ 2 _ [x, y] _ (RdI.of2 ?_ ?_ ?_ ?_ ?_) (Lib.hid rfl)).mono ?_
  · go_simp
  · go_simp
  · go_simp
  · go_simp
  · go_simp
  rintro e w1 ⟨rfl, hb1⟩
  have hb1' : Below w.heap.size w w1 := ((((Below.refl _ _).alloc (Nat.le_refl _) _).alloc (by simp) _).alloc (by simp; omega) _ |>.alloc (by simp; omega) _).trans (hb1.mono (by simp; omega))
  have k1 := keepc (p := ⟨w.heap.size + 2, 0, none⟩) (v := .int .i64 0) (by go_simp) hb1
  have k2 := keepc (p := ⟨w.heap.size + 2, 1, none⟩) (v := .int .i64 0) (by go_simp) hb1
  have k3 := keepf (p := ⟨w.heap.size + 2, 0, none⟩) (v := .int .i64 0) (by go_simp) (by go_simp) hb1
  have k4 := keepf (p := ⟨w.heap.size + 2, 1, none⟩) (v := .int .i64 0) (by go_simp) (by go_simp) hb1
  clear hb1
  go_wp2_with fail
  refine bodyPost_ret (v := .tuple #[.agg #[.int .i64 (sumR [x, y]).1.1, .int .i64 (sumR [x, y]).1.2], .int .i64 (sumR [x, y]).2]) ?_ rfl ⟨rfl, ?_⟩
  · simp [results, Try.results23, go_sem, k1, k2]
  · exact (hb1'.setCell (show w.heap.size ≤ w.heap.size + 2 by omega) _).setCell (show w.heap.size ≤ w.heap.size + 2 by omega) _

set_option maxHeartbeats 1600000 in
theorem rSub_any (x y : Int × Int) (w : World) : Calls Try.prog 24 #[.agg #[.int .i64 x.1, .int .i64 x.2], .agg #[.int .i64 y.1, .int .i64 y.2]] w fun e w' =>
    e = .returned (.tuple #[.agg #[.int .i64 (subR x y).1.1, .int .i64 (subR x y).1.2], .int .i64 (subR x y).2]) ∧ Below w.heap.size w w' := by
  by_cases he : errAll [x, y] = 0
  · obtain ⟨i1, i2⟩ := errAll_two he
    have b1 := (inR_iff x).1 i1
    have b2 := (inR_iff y).1 i2
    have HE := Lib.hid he
    have hval : Hid (subR x y = rngd (x.1 - y.2, x.2 - y.1)) := Lib.hid (by simp [subR, he])
    clear he i1 i2
    go_enter Try.func24, Try.ntmps24
    go_wp2_with fail
    refine (rAll_any _ 2 _ [x, y] _ (RdI.of2 ?_ ?_ ?_ ?_ ?_) (Lib.hid rfl) ?_).mono ?_
    · go_simp
    · go_simp
    · go_simp
    · go_simp
    · go_simp
    · simp [maxLen]
    rintro e w1 ⟨rfl, hb1⟩
    have hb1' : Below w.heap.size w w1 := ((((Below.refl _ _).alloc (Nat.le_refl _) _).alloc (by simp) _).alloc (by simp; omega) _ |>.alloc (by simp; omega) _).trans (hb1.mono (by simp; omega))
    have x1 := keepc (p := ⟨w.heap.size, 0, none⟩) (v := .int .i64 x.1) (by go_simp) hb1
    have x2 := keepc (p := ⟨w.heap.size, 1, none⟩) (v := .int .i64 x.2) (by go_simp) hb1
    have y1 := keepc (p := ⟨w.heap.size + 1, 0, none⟩) (v := .int .i64 y.1) (by go_simp) hb1
    have y2 := keepc (p := ⟨w.heap.size + 1, 1, none⟩) (v := .int .i64 y.2) (by go_simp) hb1
    have k1 := keepc (p := ⟨w.heap.size + 2, 0, none⟩) (v := .int .i64 0) (by go_simp) hb1
    have k2 := keepc (p := ⟨w.heap.size + 2, 1, none⟩) (v := .int .i64 0) (by go_simp) hb1
    have k3 := keepf (p := ⟨w.heap.size + 2, 0, none⟩) (v := .int .i64 0) (by go_simp) (by go_simp) hb1
    have k4 := keepf (p := ⟨w.heap.size + 2, 1, none⟩) (v := .int .i64 0) (by go_simp) (by go_simp) hb1
    have hz1 : w.heap.size + 3 < w1.heap.size := by have := hb1.size; simp at this; omega
    clear hb1
    rw [HE.out]
    have hc := fun w => rresult_any (x.1 - y.2, x.2 - y.1) w
    have HC := Lib.hid hc
    clear hc
    go_wp2_with fail
    refine (HC.out _).mono ?_
    rintro e w2 ⟨rfl, hb2⟩
    have q1 := keepc k1 hb2
    have q2 := keepc k2 hb2
    have q3 := keepf k1 k3 hb2
    have q4 := keepf k2 k4 hb2
    clear k1 k2 k3 k4 x1 x2 y1 y2
    rw [← hval.out]
    go_wp2_with fail
    refine bodyPost_ret (v := .tuple #[.agg #[.int .i64 (subR x y).1.1, .int .i64 (subR x y).1.2], .int .i64 (subR x y).2]) ?_ rfl ⟨rfl, ?_⟩
    · simp [results, Try.results24, go_sem, q1, q2]
    · exact ((hb1'.trans (hb2.mono (by omega))).setCell (show w.heap.size ≤ w.heap.size + 2 by omega) _).setCell (show w.heap.size ≤ w.heap.size + 2 by omega) _
  · have hval : Hid (subR x y = ((0, 0), errAll [x, y])) := Lib.hid (by simp [subR, he])
    have hne : (errAll [x, y] != 0) = true := by simpa using he
    have hne' : (errAll [x, y] == 0) = false := by simpa using he
    clear he
    go_enter Try.func24, Try.ntmps24
    go_wp2_with fail
    refine (rAll_any _ 2 _ [x, y] _ (RdI.of2 ?_ ?_ ?_ ?_ ?_) (Lib.hid rfl) ?_).mono ?_
    · go_simp
    · go_simp
    · go_simp
    · go_simp
    · go_simp
    · simp [maxLen]
    rintro e w1 ⟨rfl, hb1⟩
    have hb1' : Below w.heap.size w w1 := ((((Below.refl _ _).alloc (Nat.le_refl _) _).alloc (by simp) _).alloc (by simp; omega) _ |>.alloc (by simp; omega) _).trans (hb1.mono (by simp; omega))
    have k1 := keepc (p := ⟨w.heap.size + 2, 0, none⟩) (v := .int .i64 0) (by go_simp) hb1
    have k2 := keepc (p := ⟨w.heap.size + 2, 1, none⟩) (v := .int .i64 0) (by go_simp) hb1
    have k3 := keepf (p := ⟨w.heap.size + 2, 0, none⟩) (v := .int .i64 0) (by go_simp) (by go_simp) hb1
    have k4 := keepf (p := ⟨w.heap.size + 2, 1, none⟩) (v := .int .i64 0) (by go_simp) (by go_simp) hb1
    clear hb1
    go_wp2_with fail
    refine bodyPost_ret (v := .tuple #[.agg #[.int .i64 0, .int .i64 0], .int .i64 (errAll [x, y])]) ?_ rfl ⟨by rw [hval.out], ?_⟩
    · simp [results, Try.results24, go_sem, k1, k2]
    · exact (hb1'.setCell (show w.heap.size ≤ w.heap.size + 2 by omega) _).setCell (show w.heap.size ≤ w.heap.size + 2 by omega) _

set_option maxHeartbeats 1600000 in
theorem rHull_any (x y : Int × Int) (w : World) : Calls Try.prog 26 #[.agg #[.int .i64 x.1, .int .i64 x.2], .agg #[.int .i64 y.1, .int .i64 y.2]] w fun e w' =>
    e = .returned (.tuple #[.agg #[.int .i64 (hulR x y).1.1, .int .i64 (hulR x y).1.2], .int .i64 (hulR x y).2]) ∧ Below w.heap.size w w' := by
  by_cases he : errAll [x, y] = 0
  · obtain ⟨i1, i2⟩ := errAll_two he
    have b1 := (inR_iff x).1 i1
    have b2 := (inR_iff y).1 i2
    have HE := Lib.hid he
    have hval : Hid (hulR x y = ((if x.1 < y.1 then x.1 else y.1, if x.2 < y.2 then y.2 else x.2), 0)) := Lib.hid (by simp [hulR, he])
    clear he i1 i2
    go_enter Try.func26, Try.ntmps26
    go_wp2_with fail
    refine (rAll_any _ 2 _ [x, y] _ (RdI.of2 ?_ ?_ ?_ ?_ ?_) (Lib.hid rfl) ?_).mono ?_
    · go_simp
    · go_simp
    · go_simp
    · go_simp
    · go_simp
    · simp [maxLen]
    rintro e w1 ⟨rfl, hb1⟩
    have hb1' : Below w.heap.size w w1 := ((((Below.refl _ _).alloc (Nat.le_refl _) _).alloc (by simp) _).alloc (by simp; omega) _ |>.alloc (by simp; omega) _).trans (hb1.mono (by simp; omega))
    have x1 := keepc (p := ⟨w.heap.size, 0, none⟩) (v := .int .i64 x.1) (by go_simp) hb1
    have x2 := keepc (p := ⟨w.heap.size, 1, none⟩) (v := .int .i64 x.2) (by go_simp) hb1
    have y1 := keepc (p := ⟨w.heap.size + 1, 0, none⟩) (v := .int .i64 y.1) (by go_simp) hb1
    have y2 := keepc (p := ⟨w.heap.size + 1, 1, none⟩) (v := .int .i64 y.2) (by go_simp) hb1
    have k1 := keepc (p := ⟨w.heap.size + 2, 0, none⟩) (v := .int .i64 0) (by go_simp) hb1
    have k2 := keepc (p := ⟨w.heap.size + 2, 1, none⟩) (v := .int .i64 0) (by go_simp) hb1
    have k3 := keepf (p := ⟨w.heap.size + 2, 0, none⟩) (v := .int .i64 0) (by go_simp) (by go_simp) hb1
    have k4 := keepf (p := ⟨w.heap.size + 2, 1, none⟩) (v := .int .i64 0) (by go_simp) (by go_simp) hb1
    have hz1 : w.heap.size + 3 < w1.heap.size := by have := hb1.size; simp at this; omega
    clear hb1
    rw [HE.out]
    go_wp2
    all_goals
      refine bodyPost_ret (v := .tuple #[.agg #[.int .i64 (if x.1 < y.1 then x.1 else y.1), .int .i64 (if x.2 < y.2 then y.2 else x.2)], .int .i64 0]) ?_ rfl ⟨by rw [hval.out], ?_⟩
      · simp [results, Try.results26, go_sem, k1, k2]
        omega
      · exact (hb1'.setCell (show w.heap.size ≤ w.heap.size + 2 by omega) _).setCell (show w.heap.size ≤ w.heap.size + 2 by omega) _
  · have hval : Hid (hulR x y = ((0, 0), errAll [x, y])) := Lib.hid (by simp [hulR, he])
    have hne : (errAll [x, y] != 0) = true := by simpa using he
    have hne' : (errAll [x, y] == 0) = false := by simpa using he
    clear he
    go_enter Try.func26, Try.ntmps26
    go_wp2_with fail
    refine (rAll_any _ 2 _ [x, y] _ (RdI.of2 ?_ ?_ ?_ ?_ ?_) (Lib.hid rfl) ?_).mono ?_
    · go_simp
    · go_simp
    · go_simp
    · go_simp
    · go_simp
    · simp [maxLen]
    rintro e w1 ⟨rfl, hb1⟩
    have hb1' : Below w.heap.size w w1 := ((((Below.refl _ _).alloc (Nat.le_refl _) _).alloc (by simp) _).alloc (by simp; omega) _ |>.alloc (by simp; omega) _).trans (hb1.mono (by simp; omega))
    have k1 := keepc (p := ⟨w.heap.size + 2, 0, none⟩) (v := .int .i64 0) (by go_simp) hb1
    have k2 := keepc (p := ⟨w.heap.size + 2, 1, none⟩) (v := .int .i64 0) (by go_simp) hb1
    have k3 := keepf (p := ⟨w.heap.size + 2, 0, none⟩) (v := .int .i64 0) (by go_simp) (by go_simp) hb1
    have k4 := keepf (p := ⟨w.heap.size + 2, 1, none⟩) (v := .int .i64 0) (by go_simp) (by go_simp) hb1
    clear hb1
    go_wp2_with fail
    refine bodyPost_ret (v := .tuple #[.agg #[.int .i64 0, .int .i64 0], .int .i64 (errAll [x, y])]) ?_ rfl ⟨by rw [hval.out], ?_⟩
    · simp [results, Try.results26, go_sem, k1, k2]
    · exact (hb1'.setCell (show w.heap.size ≤ w.heap.size + 2 by omega) _).setCell (show w.heap.size ≤ w.heap.size + 2 by omega) _
end Go.Proofs.Ytekjhdpadddkpaa
