/- Contracts of Check, Contains, Within, Length, overlap and ranged, of span and of its reference. -/
import Derived.Test.YtekjhdpadddkpaaSpanA
import Derived.Deep.RegionHeld3
namespace Go.Proofs.Ytekjhdpadddkpaa
open Go.RowKit

theorem RdI.of1 {w : World} {g : Nat} {x : Int × Int} (hg : g < w.heap.size) (h1 : w.cell? ⟨g, 0, none⟩ = some (.int .i64 x.1)) (h2 : w.cell? ⟨g, 1, none⟩ = some (.int .i64 x.2)) :
    RdI w w.heap.size (some ⟨g, 0, none⟩) [x] := by
  intro k hk
  obtain rfl : k = 0 := by simp at hk; omega
  exact ⟨_, _, x, rfl, hg, rfl, h1, h2⟩
theorem RdI.of2 {w : World} {g : Nat} {x y : Int × Int} (hg : g < w.heap.size) (h1 : w.cell? ⟨g, 0, none⟩ = some (.int .i64 x.1)) (h2 : w.cell? ⟨g, 1, none⟩ = some (.int .i64 x.2))
    (h3 : w.cell? ⟨g, 2, none⟩ = some (.int .i64 y.1)) (h4 : w.cell? ⟨g, 3, none⟩ = some (.int .i64 y.2)) : RdI w w.heap.size (some ⟨g, 0, none⟩) [x, y] := by
  intro k hk
  have hk : k < 2 := hk
  match k, hk with
  | 0, _ => exact ⟨_, _, x, rfl, hg, rfl, h1, h2⟩
  | 1, _ => exact ⟨_, _, y, rfl, hg, rfl, h3, h4⟩

theorem sCheck_any (x : Int × Int) (w : World) : Calls Try.prog 11 #[.agg #[.int .i64 x.1, .int .i64 x.2]] w fun e w' => e = .returned (.int .i64 (errAll [x])) ∧ Below w.heap.size w w' := by
  go_enter Try.func11, Try.ntmps11
  go_wp2_with fail
  refine (checkAll_any _ _ _ [x] _ ?_ ?_ ?_).mono ?_
  · exact RdI.of1 (by simp) (by simp) (by simp)
  · exact Lib.hid rfl
  · simp [maxLen]
  rintro e w' ⟨rfl, hb⟩
  go_wp2_with fail
  go_ret
  exact ⟨rfl, (((Below.refl _ _).alloc (Nat.le_refl _) _).alloc (by simp) _).trans (hb.mono (by simp; omega))⟩

theorem rCheck_any (x : Int × Int) (w : World) : Calls Try.prog 12 #[.agg #[.int .i64 x.1, .int .i64 x.2]] w fun e w' => e = .returned (.int .i64 (errAll [x])) ∧ Below w.heap.size w w' := by
  go_enter Try.func12, Try.ntmps12
  go_wp2_with fail
  refine (rAll_any _ _ _ [x] _ ?_ ?_ ?_).mono ?_
  · exact RdI.of1 (by simp) (by simp) (by simp)
  · exact Lib.hid rfl
  · simp [maxLen]
  rintro e w' ⟨rfl, hb⟩
  go_wp2_with fail
  go_ret
  exact ⟨rfl, (((Below.refl _ _).alloc (Nat.le_refl _) _).alloc (by simp) _).trans (hb.mono (by simp; omega))⟩

def inB (x : Int × Int) (n : Int) : Bool := decide (x.1 ≤ n) && decide (n ≤ x.2)
theorem sContains_any (x : Int × Int) (n : Int) (w : World) : Calls Try.prog 13 #[.agg #[.int .i64 x.1, .int .i64 x.2], .int .i64 n] w fun e w' =>
    e = .returned (.bool (inB x n)) ∧ Below w.heap.size w w' := by
  go_enter Try.func13, Try.ntmps13
  go_wp2
  all_goals
    go_ret
    exact ⟨ret_bool (by rw [Bool.eq_iff_iff]; simp [inB]; omega), ((Below.refl _ _).alloc (Nat.le_refl _) _)⟩
theorem rContains_any (x : Int × Int) (n : Int) (w : World) : Calls Try.prog 14 #[.agg #[.int .i64 x.1, .int .i64 x.2], .int .i64 n] w fun e w' =>
    e = .returned (.bool (inB x n)) ∧ Below w.heap.size w w' := by
  go_enter Try.func14, Try.ntmps14
  go_wp2
  all_goals
    go_ret
    exact ⟨ret_bool (by rw [Bool.eq_iff_iff]; simp [inB]; omega), ((Below.refl _ _).alloc (Nat.le_refl _) _)⟩

def ovl (x y : Int × Int) : Int × Int := (if y.1 < x.1 then x.1 else y.1, if x.2 < y.2 then x.2 else y.2)
theorem overlap_any (x y : Int × Int) (w : World) : Calls Try.prog 42 #[.agg #[.int .i64 x.1, .int .i64 x.2], .agg #[.int .i64 y.1, .int .i64 y.2]] w fun e w' =>
    e = .returned (.agg #[.int .i64 (ovl x y).1, .int .i64 (ovl x y).2]) ∧ Below w.heap.size w w' := by
  go_enter Try.func42, Try.ntmps42
  go_wp2
  all_goals
    refine bodyPost_ret (v := .agg #[.int .i64 (ovl x y).1, .int .i64 (ovl x y).2]) ?_ rfl ⟨rfl, ?_⟩
    · simp [results, Try.results42, go_sem, ovl]; omega
    · exact ((((Below.refl _ _).alloc (Nat.le_refl _) _).alloc (by simp) _).alloc (by simp; omega) _)

def withinB (x y : Int × Int) : Bool := decide (x.2 < x.1) || (decide (y.1 ≤ x.1) && decide (x.2 ≤ y.2))
theorem rWithin_any (x y : Int × Int) (w : World) : Calls Try.prog 16 #[.agg #[.int .i64 x.1, .int .i64 x.2], .agg #[.int .i64 y.1, .int .i64 y.2]] w fun e w' =>
    e = .returned (.bool (withinB x y)) ∧ Below w.heap.size w w' := by
  go_enter Try.func16, Try.ntmps16
  go_wp2
  all_goals
    go_ret
    exact ⟨ret_bool (by rw [Bool.eq_iff_iff]; simp [withinB]; omega), (((Below.refl _ _).alloc (Nat.le_refl _) _).alloc (by simp) _)⟩

def lenI (x : Int × Int) : Int := if errAll [x] = 0 then x.2 - x.1 + 1 else 0
theorem errAll1 (x : Int × Int) : (errAll [x] = 0 ∧ inR x = true ∧ x.1 ≤ x.2) ∨ (errAll [x] ≠ 0 ∧ lenI x = 0) := by
  rcases h1 : inR x with _ | _
  · exact .inr ⟨by simp [errAll, h1], by simp [lenI, errAll, h1]⟩
  · by_cases h2 : x.1 ≤ x.2
    · exact .inl ⟨by simp [errAll, h1, leB, h2], h1 ▸ rfl, h2⟩
    · exact .inr ⟨by simp [errAll, h1, leB, h2], by simp [lenI, errAll, h1, leB, h2]⟩
theorem sLength_any (x : Int × Int) (w : World) : Calls Try.prog 17 #[.agg #[.int .i64 x.1, .int .i64 x.2]] w fun e w' => e = .returned (.int .i64 (lenI x)) ∧ Below w.heap.size w w' := by
  rcases errAll1 x with ⟨h0, h1, h2⟩ | ⟨h0, h1⟩
  · obtain ⟨b1, b2, b3, b4⟩ := (inR_iff x).1 h1
    have H : Hid (lenI x = x.2 - x.1 + 1) := Lib.hid (by simp [lenI, h0])
    have hc : ∀ w, Calls Try.prog 11 #[.agg #[.int .i64 x.1, .int .i64 x.2]] w fun e w' => e = .returned (.int .i64 0) ∧ Below w.heap.size w w' := fun w => h0 ▸ sCheck_any x w
    have HC := Lib.hid hc
    clear hc h0 h1
    go_enter Try.func17, Try.ntmps17
    go_wp2_with fail
    refine (HC.out _).mono ?_
    rintro e w' ⟨rfl, hb⟩
    have c1 := hb.cell (p := ⟨w.heap.size, 0, none⟩) (by simp)
    have c2 := hb.cell (p := ⟨w.heap.size, 1, none⟩) (by simp)
    simp at c1 c2
    go_wp2_with fail
    go_ret
    exact ⟨ret_int H.out.symm, ((Below.refl _ _).alloc (Nat.le_refl _) _).trans (hb.mono (by simp))⟩
  · have H := Lib.hid h1
    have hne : (errAll [x] != 0) = true := by simpa using h0
    have hc := fun w => sCheck_any x w
    have HC := Lib.hid hc
    clear hc h0 h1
    go_enter Try.func17, Try.ntmps17
    go_wp2_with fail
    refine (HC.out _).mono ?_
    rintro e w' ⟨rfl, hb⟩
    go_wp2_with fail
    go_ret
    exact ⟨ret_int H.out.symm, ((Below.refl _ _).alloc (Nat.le_refl _) _).trans (hb.mono (by simp))⟩
end Go.Proofs.Ytekjhdpadddkpaa
