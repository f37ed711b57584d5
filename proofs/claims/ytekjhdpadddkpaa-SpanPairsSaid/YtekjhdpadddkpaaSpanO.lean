/- The walks of SpanChecks, SpanPairs and SpanSums. -/
import Derived.Test.YtekjhdpadddkpaaSpanN
namespace Go.Proofs.Ytekjhdpadddkpaa
open Go.RowKit

set_option maxHeartbeats 4000000 in
theorem checks_walk (x y : Int × Int) (n : Int) (w : World) : Calls Try.prog 3 #[.agg #[.int .i64 x.1, .int .i64 x.2], .agg #[.int .i64 y.1, .int .i64 y.2], .int .i64 n] w fun e w' => e = .returned (.bool true) ∧ Below w.heap.size w w' := by
  go_enter Try.func3, Try.ntmps3
  go_wp2_with fail
  refine (awake_any _).mono ?_
  rintro e w1 ⟨rfl, hb1⟩
  have k1 := keepc (p := ⟨w.heap.size, 0, none⟩) (v := .int .i64 x.1) (by go_simp) hb1
  have k2 := keepc (p := ⟨w.heap.size, 1, none⟩) (v := .int .i64 x.2) (by go_simp) hb1
  have k3 := keepc (p := ⟨w.heap.size + 1, 0, none⟩) (v := .int .i64 y.1) (by go_simp) hb1
  have k4 := keepc (p := ⟨w.heap.size + 1, 1, none⟩) (v := .int .i64 y.2) (by go_simp) hb1
  have hb1' := bthen (bnew (bnew (Below.refl _ w) _) _) hb1
  clear hb1
  go_wp2_with fail
  go_region_held3 (fun w' => w'.cell? ⟨w.heap.size, 0, none⟩ = some (.int .i64 x.1) ∧ w'.cell? ⟨w.heap.size, 1, none⟩ = some (.int .i64 x.2) ∧ w'.cell? ⟨w.heap.size + 1, 0, none⟩ = some (.int .i64 y.1) ∧ w'.cell? ⟨w.heap.size + 1, 1, none⟩ = some (.int .i64 y.2) ∧ Below w.heap.size w w') (first | exact keep4 (by assumption) hb | exact ⟨k1, k2, k3, k4, hb1'.drew⟩)
    (first
      | (go_at_call 11; refine (sCheck_any x _).mono ?_; rintro e w' ⟨rfl, hb⟩)
      | (go_at_call 12; refine (rCheck_any x _).mono ?_; rintro e w' ⟨rfl, hb⟩)
      | (go_at_call 13; refine (sContains_any x n _).mono ?_; rintro e w' ⟨rfl, hb⟩)
      | (go_at_call 14; refine (rContains_any x n _).mono ?_; rintro e w' ⟨rfl, hb⟩)
      | (go_at_call 15; refine (sWithin_any x y _).mono ?_; rintro e w' ⟨rfl, hb⟩)
      | (go_at_call 16; refine (rWithin_any x y _).mono ?_; rintro e w' ⟨rfl, hb⟩)
      | (go_at_call 17; refine (sLength_any x _).mono ?_; rintro e w' ⟨rfl, hb⟩)
      | (go_at_call 18; refine (rLength_any x _).mono ?_; rintro e w' ⟨rfl, hb⟩))
  go_wp2
  go_ret
  rename_i hS
  exact ⟨rfl, hS.2.2.2.2⟩

set_option maxHeartbeats 4000000 in
theorem pairs_walk (x y : Int × Int) (w : World) : Calls Try.prog 4 #[.agg #[.int .i64 x.1, .int .i64 x.2], .agg #[.int .i64 y.1, .int .i64 y.2]] w fun e w' => e = .returned (.bool true) ∧ Below w.heap.size w w' := by
  have hadd := fun w => sAdd_any x y w
  have hsub := fun w => sSub_any x y w
  have hits := fun w => sIntersect_any x y w
  have hhul := fun w => sHull_any x y w
  have hadd' := fun w => rAdd_any x y w
  have hsub' := fun w => rSub_any x y w
  have hits' := fun w => rIntersect_any x y w
  have hhul' := fun w => rHull_any x y w
  generalize sumR [x, y] = a at hadd hadd'
  generalize subR x y = s at hsub hsub'
  generalize itsR x y = i at hits hits'
  generalize hulR x y = h at hhul hhul'
  have HA := Lib.hid hadd
  have HA' := Lib.hid hadd'
  have HS := Lib.hid hsub
  have HS' := Lib.hid hsub'
  have HI := Lib.hid hits
  have HI' := Lib.hid hits'
  have HH := Lib.hid hhul
  have HH' := Lib.hid hhul'
  clear hadd hadd' hsub hsub' hits hits' hhul hhul'
  have e1 := fun w => eqIv a.1 a.1 w
  have e2 := fun w => eqIv s.1 s.1 w
  have e3 := fun w => eqIv i.1 i.1 w
  have e4 := fun w => eqIv h.1 h.1 w
  simp only [decide_true] at e1 e2 e3 e4
  go_enter Try.func4, Try.ntmps4
  go_wp2_with fail
  refine (awake_any _).mono ?_
  rintro e w1 ⟨rfl, hb1⟩
  have kx1 := keepc (p := ⟨w.heap.size, 0, none⟩) (v := .int .i64 x.1) (by go_simp) hb1
  have kx2 := keepc (p := ⟨w.heap.size, 1, none⟩) (v := .int .i64 x.2) (by go_simp) hb1
  have ky1 := keepc (p := ⟨w.heap.size + 1, 0, none⟩) (v := .int .i64 y.1) (by go_simp) hb1
  have ky2 := keepc (p := ⟨w.heap.size + 1, 1, none⟩) (v := .int .i64 y.2) (by go_simp) hb1
  have hb := bthen (bnew (bnew (Below.refl _ w) _) _) hb1
  clear hb1
  have zkx := lt_of_cell kx1
  have zky := lt_of_cell ky1
  go_wp2_with fail
  refine (HA.out _).mono ?_
  rintro e w2 ⟨rfl, hbn⟩
  replace kx1 := keepc kx1 hbn
  replace kx2 := keepc kx2 hbn
  replace ky1 := keepc ky1 hbn
  replace ky2 := keepc ky2 hbn
  replace hb := bthen hb hbn
  clear hbn zkx zky
  have zkx := lt_of_cell kx1
  have zky := lt_of_cell ky1
  go_wp2_with fail
  refine (HS.out _).mono ?_
  rintro e w3 ⟨rfl, hbn⟩
  replace kx1 := keepc (keepa kx1 _) hbn
  replace kx2 := keepc (keepa kx2 _) hbn
  replace ky1 := keepc (keepa ky1 _) hbn
  replace ky2 := keepc (keepa ky2 _) hbn
  have k01 := keepc (p := ⟨w2.heap.size, 0, none⟩) (v := .int .i64 a.1.1) (by go_simp) hbn
  have k02 := keepc (p := ⟨w2.heap.size, 1, none⟩) (v := .int .i64 a.1.2) (by go_simp) hbn
  replace hb := bthen (bnew hb _) hbn
  clear hbn zkx zky
  have zkx := lt_of_cell kx1
  have zky := lt_of_cell ky1
  have zk0 := lt_of_cell k01
  go_wp2_with fail
  refine (HI.out _).mono ?_
  rintro e w4 ⟨rfl, hbn⟩
  replace kx1 := keepc (keepa kx1 _) hbn
  replace kx2 := keepc (keepa kx2 _) hbn
  replace ky1 := keepc (keepa ky1 _) hbn
  replace ky2 := keepc (keepa ky2 _) hbn
  replace k01 := keepc (keepa k01 _) hbn
  replace k02 := keepc (keepa k02 _) hbn
  have k11 := keepc (p := ⟨w3.heap.size, 0, none⟩) (v := .int .i64 s.1.1) (by go_simp) hbn
  have k12 := keepc (p := ⟨w3.heap.size, 1, none⟩) (v := .int .i64 s.1.2) (by go_simp) hbn
  replace hb := bthen (bnew hb _) hbn
  clear hbn zkx zky zk0
  have zkx := lt_of_cell kx1
  have zky := lt_of_cell ky1
  have zk0 := lt_of_cell k01
  have zk1 := lt_of_cell k11
  go_wp2_with fail
  refine (HH.out _).mono ?_
  rintro e w5 ⟨rfl, hbn⟩
  replace kx1 := keepc (keepa kx1 _) hbn
  replace kx2 := keepc (keepa kx2 _) hbn
  replace ky1 := keepc (keepa ky1 _) hbn
  replace ky2 := keepc (keepa ky2 _) hbn
  replace k01 := keepc (keepa k01 _) hbn
  replace k02 := keepc (keepa k02 _) hbn
  replace k11 := keepc (keepa k11 _) hbn
  replace k12 := keepc (keepa k12 _) hbn
  have k21 := keepc (p := ⟨w4.heap.size, 0, none⟩) (v := .int .i64 i.1.1) (by go_simp) hbn
  have k22 := keepc (p := ⟨w4.heap.size, 1, none⟩) (v := .int .i64 i.1.2) (by go_simp) hbn
  replace hb := bthen (bnew hb _) hbn
  clear hbn zkx zky zk0 zk1
  have zkx := lt_of_cell kx1
  have zky := lt_of_cell ky1
  have zk0 := lt_of_cell k01
  have zk1 := lt_of_cell k11
  have zk2 := lt_of_cell k21
  go_wp2_with fail
  refine (HA'.out _).mono ?_
  rintro e w6 ⟨rfl, hbn⟩
  replace kx1 := keepc (keepa kx1 _) hbn
  replace kx2 := keepc (keepa kx2 _) hbn
  replace ky1 := keepc (keepa ky1 _) hbn
  replace ky2 := keepc (keepa ky2 _) hbn
  replace k01 := keepc (keepa k01 _) hbn
  replace k02 := keepc (keepa k02 _) hbn
  replace k11 := keepc (keepa k11 _) hbn
  replace k12 := keepc (keepa k12 _) hbn
  replace k21 := keepc (keepa k21 _) hbn
  replace k22 := keepc (keepa k22 _) hbn
  have k31 := keepc (p := ⟨w5.heap.size, 0, none⟩) (v := .int .i64 h.1.1) (by go_simp) hbn
  have k32 := keepc (p := ⟨w5.heap.size, 1, none⟩) (v := .int .i64 h.1.2) (by go_simp) hbn
  replace hb := bthen (bnew hb _) hbn
  clear hbn zkx zky zk0 zk1 zk2
  have zkx := lt_of_cell kx1
  have zky := lt_of_cell ky1
  have zk0 := lt_of_cell k01
  have zk1 := lt_of_cell k11
  have zk2 := lt_of_cell k21
  have zk3 := lt_of_cell k31
  go_wp2_with fail
  refine (HS'.out _).mono ?_
  rintro e w7 ⟨rfl, hbn⟩
  replace kx1 := keepc (keepa kx1 _) hbn
  replace kx2 := keepc (keepa kx2 _) hbn
  replace ky1 := keepc (keepa ky1 _) hbn
  replace ky2 := keepc (keepa ky2 _) hbn
  replace k01 := keepc (keepa k01 _) hbn
  replace k02 := keepc (keepa k02 _) hbn
  replace k11 := keepc (keepa k11 _) hbn
  replace k12 := keepc (keepa k12 _) hbn
  replace k21 := keepc (keepa k21 _) hbn
  replace k22 := keepc (keepa k22 _) hbn
  replace k31 := keepc (keepa k31 _) hbn
  replace k32 := keepc (keepa k32 _) hbn
  have k41 := keepc (p := ⟨w6.heap.size, 0, none⟩) (v := .int .i64 a.1.1) (by go_simp) hbn
  have k42 := keepc (p := ⟨w6.heap.size, 1, none⟩) (v := .int .i64 a.1.2) (by go_simp) hbn
  replace hb := bthen (bnew hb _) hbn
  clear hbn zkx zky zk0 zk1 zk2 zk3
  have zkx := lt_of_cell kx1
  have zky := lt_of_cell ky1
  have zk0 := lt_of_cell k01
  have zk1 := lt_of_cell k11
  have zk2 := lt_of_cell k21
  have zk3 := lt_of_cell k31
  have zk4 := lt_of_cell k41
  go_wp2_with fail
  refine (HI'.out _).mono ?_
  rintro e w8 ⟨rfl, hbn⟩
  replace kx1 := keepc (keepa kx1 _) hbn
  replace kx2 := keepc (keepa kx2 _) hbn
  replace ky1 := keepc (keepa ky1 _) hbn
  replace ky2 := keepc (keepa ky2 _) hbn
  replace k01 := keepc (keepa k01 _) hbn
  replace k02 := keepc (keepa k02 _) hbn
  replace k11 := keepc (keepa k11 _) hbn
  replace k12 := keepc (keepa k12 _) hbn
  replace k21 := keepc (keepa k21 _) hbn
  replace k22 := keepc (keepa k22 _) hbn
  replace k31 := keepc (keepa k31 _) hbn
  replace k32 := keepc (keepa k32 _) hbn
  replace k41 := keepc (keepa k41 _) hbn
  replace k42 := keepc (keepa k42 _) hbn
  have k51 := keepc (p := ⟨w7.heap.size, 0, none⟩) (v := .int .i64 s.1.1) (by go_simp) hbn
  have k52 := keepc (p := ⟨w7.heap.size, 1, none⟩) (v := .int .i64 s.1.2) (by go_simp) hbn
  replace hb := bthen (bnew hb _) hbn
  clear hbn zkx zky zk0 zk1 zk2 zk3 zk4
  have zkx := lt_of_cell kx1
  have zky := lt_of_cell ky1
  have zk0 := lt_of_cell k01
  have zk1 := lt_of_cell k11
  have zk2 := lt_of_cell k21
  have zk3 := lt_of_cell k31
  have zk4 := lt_of_cell k41
  have zk5 := lt_of_cell k51
  go_wp2_with fail
  refine (HH'.out _).mono ?_
  rintro e w9 ⟨rfl, hbn⟩
  replace kx1 := keepc (keepa kx1 _) hbn
  replace kx2 := keepc (keepa kx2 _) hbn
  replace ky1 := keepc (keepa ky1 _) hbn
  replace ky2 := keepc (keepa ky2 _) hbn
  replace k01 := keepc (keepa k01 _) hbn
  replace k02 := keepc (keepa k02 _) hbn
  replace k11 := keepc (keepa k11 _) hbn
  replace k12 := keepc (keepa k12 _) hbn
  replace k21 := keepc (keepa k21 _) hbn
  replace k22 := keepc (keepa k22 _) hbn
  replace k31 := keepc (keepa k31 _) hbn
  replace k32 := keepc (keepa k32 _) hbn
  replace k41 := keepc (keepa k41 _) hbn
  replace k42 := keepc (keepa k42 _) hbn
  replace k51 := keepc (keepa k51 _) hbn
  replace k52 := keepc (keepa k52 _) hbn
  have k61 := keepc (p := ⟨w8.heap.size, 0, none⟩) (v := .int .i64 i.1.1) (by go_simp) hbn
  have k62 := keepc (p := ⟨w8.heap.size, 1, none⟩) (v := .int .i64 i.1.2) (by go_simp) hbn
  replace hb := bthen (bnew hb _) hbn
  clear hbn zkx zky zk0 zk1 zk2 zk3 zk4 zk5
  have zkx := lt_of_cell kx1
  have zky := lt_of_cell ky1
  have zk0 := lt_of_cell k01
  have zk1 := lt_of_cell k11
  have zk2 := lt_of_cell k21
  have zk3 := lt_of_cell k31
  have zk4 := lt_of_cell k41
  have zk5 := lt_of_cell k51
  have zk6 := lt_of_cell k61
  go_wp2
  go_ret
  exact ⟨rfl, bnew hb _⟩
end Go.Proofs.Ytekjhdpadddkpaa
