/- Intersect, of span and of its reference. -/
import Derived.Test.YtekjhdpadddkpaaSpanJ
namespace Go.Proofs.Ytekjhdpadddkpaa
open Go.RowKit

set_option maxHeartbeats 1600000 in
theorem sIntersect_any (x y : Int × Int) (w : World) : Calls Try.prog 21 #[.agg #[.int .i64 x.1, .int .i64 x.2], .agg #[.int .i64 y.1, .int .i64 y.2]] w fun e w' =>
    e = .returned (.tuple #[.agg #[.int .i64 (itsR x y).1.1, .int .i64 (itsR x y).1.2], .int .i64 (itsR x y).2]) ∧ Below w.heap.size w w' := by
  by_cases he : errAll [x, y] = 0
  · obtain ⟨i1, i2⟩ := errAll_two he
    have b1 := (inR_iff x).1 i1
    have b2 := (inR_iff y).1 i2
    have HE := Lib.hid he
    have hval : Hid (itsR x y = if (ovl x y).2 < (ovl x y).1 then ((0, 0), 9) else (ovl x y, 0)) := Lib.hid (by simp [itsR, he])
    clear he i1 i2
    go_enter Try.func21, Try.ntmps21
    go_wp2_with fail
    refine (checkAll_any _ 2 _ [x, y] _ (RdI.of2 ?_ ?_ ?_ ?_ ?_) (Lib.hid rfl) ?_).mono ?_
    · go_simp
    · go_simp
    · go_simp
    · go_simp
    · go_simp
    · simp [maxLen]
    rintro e w1 ⟨rfl, hb1⟩
    have hb1' : Below w.heap.size w w1 := ((((Below.refl _ _).alloc (Nat.le_refl _) _).alloc (by simp) _).alloc (by simp; omega) _ |>.alloc (by simp; omega) _).trans (hb1.mono (by simp; omega))
    have x1 := keepc (p := ⟨w.heap.size, 0, none⟩) (v := .int .i64 x.1) (by go_simp) hb1
    have x2 := keepc (p := ⟨w.heap.size, 1, none⟩) (v := .int .i64 x.2) (by go_simp) hb1
    have y1 := keepc (p := ⟨w.heap.size + 1, 0, none⟩) (v := .int .i64 y.1) (by go_simp) hb1
    have y2 := keepc (p := ⟨w.heap.size + 1, 1, none⟩) (v := .int .i64 y.2) (by go_simp) hb1
    have k1 := keepc (p := ⟨w.heap.size + 2, 0, none⟩) (v := .int .i64 0) (by go_simp) hb1
    have k2 := keepc (p := ⟨w.heap.size + 2, 1, none⟩) (v := .int .i64 0) (by go_simp) hb1
    have k3 := keepf (p := ⟨w.heap.size + 2, 0, none⟩) (v := .int .i64 0) (by go_simp) (by go_simp) hb1
    have k4 := keepf (p := ⟨w.heap.size + 2, 1, none⟩) (v := .int .i64 0) (by go_simp) (by go_simp) hb1
    have hz1 : w.heap.size + 3 < w1.heap.size := by have := hb1.size; simp at this; omega
    clear hb1
    rw [HE.out]
    by_cases hc : (ovl x y).2 < (ovl x y).1
    · have hval' : Hid (itsR x y = ((0, 0), 9)) := Lib.hid (by rw [hval.out, if_pos hc])
      go_wp2_with fail
      refine (overlap_any x y _).mono ?_
      rintro e w2 ⟨rfl, hb2⟩
      have q1 := keepc k1 hb2
      have q2 := keepc k2 hb2
      have q3 := keepf k1 k3 hb2
      have q4 := keepf k2 k4 hb2
      have hb2' : Below w.heap.size w w2 := hb1'.trans (hb2.mono (by omega))
      have hz2 : w.heap.size + 1 + 1 < w2.heap.size := by have := hb2.size; omega
      clear k1 k2 k3 k4 x1 x2 y1 y2
      generalize ovl x y = o at hc hval' ⊢
      go_wp2
      all_goals
        refine bodyPost_ret (v := .tuple #[.agg #[.int .i64 0, .int .i64 0], .int .i64 9]) ?_ rfl ⟨by rw [hval'.out], ?_⟩
        · simp [results, Try.results21, go_sem, q1, q2, hz2]
        · exact ((hb2'.setCell (show w.heap.size ≤ w.heap.size + 2 by omega) _).setCell (show w.heap.size ≤ w.heap.size + 2 by omega) _).alloc (by simp; omega) _
    · have hval' : Hid (itsR x y = (ovl x y, 0)) := Lib.hid (by rw [hval.out, if_neg hc])
      go_wp2_with fail
      refine (overlap_any x y _).mono ?_
      rintro e w2 ⟨rfl, hb2⟩
      have q1 := keepc k1 hb2
      have q2 := keepc k2 hb2
      have q3 := keepf k1 k3 hb2
      have q4 := keepf k2 k4 hb2
      have hb2' : Below w.heap.size w w2 := hb1'.trans (hb2.mono (by omega))
      have hz2 : w.heap.size + 1 + 1 < w2.heap.size := by have := hb2.size; omega
      clear k1 k2 k3 k4 x1 x2 y1 y2
      generalize ovl x y = o at hc hval' ⊢
      go_wp2
      all_goals
        refine bodyPost_ret (v := .tuple #[.agg #[.int .i64 o.1, .int .i64 o.2], .int .i64 0]) ?_ rfl ⟨by rw [hval'.out], ?_⟩
        · simp [results, Try.results21, go_sem, q1, q2, hz2]
        · exact ((hb2'.setCell (show w.heap.size ≤ w.heap.size + 2 by omega) _).setCell (show w.heap.size ≤ w.heap.size + 2 by omega) _).alloc (by simp; omega) _
  · have hval : Hid (itsR x y = ((0, 0), errAll [x, y])) := Lib.hid (by simp [itsR, he])
    have hne : (errAll [x, y] != 0) = true := by simpa using he
    have hne' : (errAll [x, y] == 0) = false := by simpa using he
    clear he
    go_enter Try.func21, Try.ntmps21
    go_wp2_with fail
    refine (checkAll_any _ 2 _ [x, y] _ (RdI.of2 ?_ ?_ ?_ ?_ ?_) (Lib.hid rfl) ?_).mono ?_
    · go_simp
    · go_simp
    · go_simp
    · go_simp
    · go_simp
    · simp [maxLen]
    rintro e w1 ⟨rfl, hb1⟩
    have hb1' : Below w.heap.size w w1 := ((((Below.refl _ _).alloc (Nat.le_refl _) _).alloc (by simp) _).alloc (by simp; omega) _ |>.alloc (by simp; omega) _).trans (hb1.mono (by simp; omega))
    have k1 := keepc (p := ⟨w.heap.size + 2, 0, none⟩) (v := .int .i64 0) (by go_simp) hb1
    have k2 := keepc (p := ⟨w.heap.size + 2, 1, none⟩) (v := .int .i64 0) (by go_simp) hb1
    have k3 := keepf (p := ⟨w.heap.size + 2, 0, none⟩) (v := .int .i64 0) (by go_simp) (by go_simp) hb1
    have k4 := keepf (p := ⟨w.heap.size + 2, 1, none⟩) (v := .int .i64 0) (by go_simp) (by go_simp) hb1
    clear hb1
    go_wp2_with fail
    refine bodyPost_ret (v := .tuple #[.agg #[.int .i64 0, .int .i64 0], .int .i64 (errAll [x, y])]) ?_ rfl ⟨by rw [hval.out], ?_⟩
    · simp [results, Try.results21, go_sem, k1, k2]
    · exact (hb1'.setCell (show w.heap.size ≤ w.heap.size + 2 by omega) _).setCell (show w.heap.size ≤ w.heap.size + 2 by omega) _

set_option maxHeartbeats 1600000 in
theorem rIntersect_any (x y : Int × Int) (w : World) : Calls Try.prog 25 #[.agg #[.int .i64 x.1, .int .i64 x.2], .agg #[.int .i64 y.1, .int .i64 y.2]] w fun e w' =>
    e = .returned (.tuple #[.agg #[.int .i64 (itsR x y).1.1, .int .i64 (itsR x y).1.2], .int .i64 (itsR x y).2]) ∧ Below w.heap.size w w' := by
  by_cases he : errAll [x, y] = 0
  · obtain ⟨i1, i2⟩ := errAll_two he
    have b1 := (inR_iff x).1 i1
    have b2 := (inR_iff y).1 i2
    have HE := Lib.hid he
    have hval : Hid (itsR x y = if (ovl x y).2 < (ovl x y).1 then ((0, 0), 9) else (ovl x y, 0)) := Lib.hid (by simp [itsR, he])
    clear he i1 i2
    go_enter Try.func25, Try.ntmps25
    go_wp2_with fail
    refine (rAll_any _ 2 _ [x, y] _ (RdI.of2 ?_ ?_ ?_ ?_ ?_) (Lib.hid rfl) ?_).mono ?_
    · go_simp
    · go_simp
    · go_simp
    · go_simp
    · go_simp
    · simp [maxLen]
    rintro e w1 ⟨rfl, hb1⟩
    have hb1' : Below w.heap.size w w1 := ((((Below.refl _ _).alloc (Nat.le_refl _) _).alloc (by simp) _).alloc (by simp; omega) _ |>.alloc (by simp; omega) _).trans (hb1.mono (by simp; omega))
    have x1 := keepc (p := ⟨w.heap.size, 0, none⟩) (v := .int .i64 x.1) (by go_simp) hb1
    have x2 := keepc (p := ⟨w.heap.size, 1, none⟩) (v := .int .i64 x.2) (by go_simp) hb1
    have y1 := keepc (p := ⟨w.heap.size + 1, 0, none⟩) (v := .int .i64 y.1) (by go_simp) hb1
    have y2 := keepc (p := ⟨w.heap.size + 1, 1, none⟩) (v := .int .i64 y.2) (by go_simp) hb1
    have k1 := keepc (p := ⟨w.heap.size + 2, 0, none⟩) (v := .int .i64 0) (by go_simp) hb1
    have k2 := keepc (p := ⟨w.heap.size + 2, 1, none⟩) (v := .int .i64 0) (by go_simp) hb1
    have k3 := keepf (p := ⟨w.heap.size + 2, 0, none⟩) (v := .int .i64 0) (by go_simp) (by go_simp) hb1
    have k4 := keepf (p := ⟨w.heap.size + 2, 1, none⟩) (v := .int .i64 0) (by go_simp) (by go_simp) hb1
    have hz1 : w.heap.size + 3 < w1.heap.size := by have := hb1.size; simp at this; omega
    clear hb1
    rw [HE.out]
    by_cases hc : (ovl x y).2 < (ovl x y).1
    · have hval' : Hid (itsR x y = ((0, 0), 9)) := Lib.hid (by rw [hval.out, if_pos hc])
      have hz2 : w.heap.size + 1 + 1 < w1.heap.size := by omega
      simp only [ovl] at hc
      go_wp2
      all_goals
        refine bodyPost_ret (v := .tuple #[.agg #[.int .i64 0, .int .i64 0], .int .i64 9]) ?_ rfl ⟨by rw [hval'.out], ?_⟩
        · simp [results, Try.results25, go_sem, k1, k2, hz2]
        · exact ((hb1'.setCell (show w.heap.size ≤ w.heap.size + 2 by omega) _).setCell (show w.heap.size ≤ w.heap.size + 2 by omega) _).alloc (by simp; omega) _
    · have hval' : Hid (itsR x y = (ovl x y, 0)) := Lib.hid (by rw [hval.out, if_neg hc])
      have hz2 : w.heap.size + 1 + 1 < w1.heap.size := by omega
      simp only [ovl] at hc
      go_wp2
      all_goals
        refine bodyPost_ret (v := .tuple #[.agg #[.int .i64 (ovl x y).1, .int .i64 (ovl x y).2], .int .i64 0]) ?_ rfl ⟨by rw [hval'.out], ?_⟩
        · simp [results, Try.results25, go_sem, k1, k2, hz2]
          refine ⟨?_, ?_⟩ <;> (simp only [ovl]; split <;> omega)
        · exact ((hb1'.setCell (show w.heap.size ≤ w.heap.size + 2 by omega) _).setCell (show w.heap.size ≤ w.heap.size + 2 by omega) _).alloc (by simp; omega) _
  · have hval : Hid (itsR x y = ((0, 0), errAll [x, y])) := Lib.hid (by simp [itsR, he])
    have hne : (errAll [x, y] != 0) = true := by simpa using he
    have hne' : (errAll [x, y] == 0) = false := by simpa using he
    clear he
    go_enter Try.func25, Try.ntmps25
    go_wp2_with fail
    refine (rAll_any _ 2 _ [x, y] _ (RdI.of2 ?_ ?_ ?_ ?_ ?_) (Lib.hid rfl) ?_).mono ?_
    · go_simp
    · go_simp
    · go_simp
    · go_simp
    · go_simp
    · simp [maxLen]
    rintro e w1 ⟨rfl, hb1⟩
    have hb1' : Below w.heap.size w w1 := ((((Below.refl _ _).alloc (Nat.le_refl _) _).alloc (by simp) _).alloc (by simp; omega) _ |>.alloc (by simp; omega) _).trans (hb1.mono (by simp; omega))
    have k1 := keepc (p := ⟨w.heap.size + 2, 0, none⟩) (v := .int .i64 0) (by go_simp) hb1
    have k2 := keepc (p := ⟨w.heap.size + 2, 1, none⟩) (v := .int .i64 0) (by go_simp) hb1
    have k3 := keepf (p := ⟨w.heap.size + 2, 0, none⟩) (v := .int .i64 0) (by go_simp) (by go_simp) hb1
    have k4 := keepf (p := ⟨w.heap.size + 2, 1, none⟩) (v := .int .i64 0) (by go_simp) (by go_simp) hb1
    clear hb1
    go_wp2_with fail
    refine bodyPost_ret (v := .tuple #[.agg #[.int .i64 0, .int .i64 0], .int .i64 (errAll [x, y])]) ?_ rfl ⟨by rw [hval.out], ?_⟩
    · simp [results, Try.results25, go_sem, k1, k2]
    · exact (hb1'.setCell (show w.heap.size ≤ w.heap.size + 2 by omega) _).setCell (show w.heap.size ≤ w.heap.size + 2 by omega) _
end Go.Proofs.Ytekjhdpadddkpaa
