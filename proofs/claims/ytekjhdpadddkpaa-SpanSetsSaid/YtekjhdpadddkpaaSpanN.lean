/- 'awake': the examples of the chapter are answered. -/
import Derived.Test.YtekjhdpadddkpaaSpanL
namespace Go.Proofs.Ytekjhdpadddkpaa
open Go.RowKit

theorem RdI.of3 {w : World} {g : Nat} {x y z : Int × Int} (hg : g < w.heap.size) (h1 : w.cell? ⟨g, 0, none⟩ = some (.int .i64 x.1)) (h2 : w.cell? ⟨g, 1, none⟩ = some (.int .i64 x.2))
    (h3 : w.cell? ⟨g, 2, none⟩ = some (.int .i64 y.1)) (h4 : w.cell? ⟨g, 3, none⟩ = some (.int .i64 y.2)) (h5 : w.cell? ⟨g, 4, none⟩ = some (.int .i64 z.1)) (h6 : w.cell? ⟨g, 5, none⟩ = some (.int .i64 z.2)) :
    RdI w w.heap.size (some ⟨g, 0, none⟩) [x, y, z] := by
  intro k hk
  have hk : k < 3 := hk
  match k, hk with
  | 0, _ => exact ⟨_, _, x, rfl, hg, rfl, h1, h2⟩
  | 1, _ => exact ⟨_, _, y, rfl, hg, rfl, h3, h4⟩
  | 2, _ => exact ⟨_, _, z, rfl, hg, rfl, h5, h6⟩

theorem ex1 {zs : List (Int × Int)} (h : NFof [(5, 7), (1, 2), (3, 3)] zs) : zs = [(1, 3), (5, 7)] := by
  refine NF.unique h.1 ⟨by simp, by simp⟩ fun n => ?_
  rw [h.2 n]
  simp only [InI_cons, InI_nil, or_false]
  omega
theorem ex2 {zs : List (Int × Int)} (h : NFof [(1, 5), (4, 9)] zs) : cntN zs = 9 := by
  have : zs = [(1, 9)] := by
    refine NF.unique h.1 ⟨by simp, by simp⟩ fun n => ?_
    rw [h.2 n]
    simp only [InI_cons, InI_nil, or_false]
    omega
  rw [this]
  rfl

set_option maxHeartbeats 1600000 in
theorem awake_any (w : World) : Calls Try.prog 10 #[] w fun e w' => e = .returned (.bool true) ∧ Below w.heap.size w w' := by
  have hadd : ∀ w, Calls Try.prog 19 #[.agg #[.int .i64 1, .int .i64 3], .agg #[.int .i64 10, .int .i64 20]] w fun e w' =>
    e = .returned (.tuple #[.agg #[.int .i64 11, .int .i64 23], .int .i64 0]) ∧ Below w.heap.size w w' := fun w => by
      have := sAdd_any (1, 3) (10, 20) w
      rwa [show sumR [(1, 3), (10, 20)] = ((11, 23), 0) by decide] at this
  have HA := Lib.hid hadd
  have he := fun w => eqIv (11, 23) (11, 23) w
  simp only [decide_true] at he
  clear hadd
  go_enter Try.func10, Try.ntmps10
  go_wp2_with fail
  refine (HA.out _).mono ?_
  rintro e w1 ⟨rfl, hb1⟩
  go_wp2_with fail
  refine (normalize_ok _ 3 _ [(5, 7), (1, 2), (3, 3)] _ (RdI.of3 ?_ ?_ ?_ ?_ ?_ ?_ ?_) (Lib.hid rfl) (by decide)).mono ?_
  · go_simp
  · go_simp
  · go_simp
  · go_simp
  · go_simp
  · go_simp
  · go_simp
  rintro e w2 ⟨v, zs, rfl, hv, hnf, hb2⟩
  have hz := ex1 hnf
  subst hz
  obtain ⟨A2, c2, rfl, hr2⟩ := hv.rd
  have k1 := keepc (p := ⟨w1.heap.size, 0, none⟩) (v := .int .i64 11) (by go_simp) hb2
  have k2 := keepc (p := ⟨w1.heap.size, 1, none⟩) (v := .int .i64 23) (by go_simp) hb2
  have hb2' : Below w.heap.size w w2 := bthen (bnew (bnew hb1 _) _) hb2
  clear hb2 hnf hv
  go_wp2_with fail
  refine (count_ok _ 2 _ [(1, 5), (4, 9)] _ (RdI.of2 ?_ ?_ ?_ ?_ ?_) (Lib.hid rfl) (by decide)).mono ?_
  · go_simp
  · go_simp
  · go_simp
  · go_simp
  · go_simp
  rintro e w3 ⟨zs, rfl, hnf, hb3⟩
  rw [ex2 hnf]
  have q1 := keepc (keepa k1 _) hb3
  have q2 := keepc (keepa k2 _) hb3
  have hb3' := bthen (bnew hb2' _) hb3
  have hr3 : RdI w3 w3.heap.size A2 [(1, 3), (5, 7)] := ((hr2.below ((Below.refl _ _).alloc (Nat.le_refl _) _)).more (by simp)).below hb3 |>.more hb3.size
  clear hb3 hnf k1 k2 hr2
  go_wp2_with fail
  refine (same_any A2 2 c2 [(1, 3), (5, 7)] _ 2 _ [(1, 3), (5, 7)] _ ?_ (Lib.hid rfl) (RdI.of2 ?_ ?_ ?_ ?_ ?_) (Lib.hid rfl) (by simp [maxLen])).mono ?_
  · exact (hr3.below ((Below.refl _ _).alloc (Nat.le_refl _) _)).more (by simp)
  · go_simp
  · go_simp
  · go_simp
  · go_simp
  · go_simp
  rintro e w4 ⟨rfl, hb4⟩
  simp only [decide_true]
  go_wp2
  go_ret
  exact ⟨rfl, bthen (bnew hb3' _) hb4⟩
end Go.Proofs.Ytekjhdpadddkpaa
