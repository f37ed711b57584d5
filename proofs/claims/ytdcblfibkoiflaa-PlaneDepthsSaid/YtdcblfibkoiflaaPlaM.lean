/- The reference's corners of a box. -/
import Derived.Test.YtdcblfibkoiflaaProg
import Derived.Test.YtdcblfibkoiflaaKit
import Derived.Test.YtdcblfibkoiflaaPlaE
import Derived.Deep.DrawnRows
import Derived.Deep.DeepCutAuto
namespace Go.Proofs.Ytdcblfibkoiflaa
open Go.RowKit
theorem Try.infoVec : (Try.prog.info? 25).map (fun i => (i.zero, i.size, i.bytes)) = some (some (.agg #[.int .i64 0, .int .i64 0, .int .i64 0]), 3, 24) := by kernel_rfl
def cor8 (x y z u v w : Int) (i : Nat) : List Value := [.int .i64 (if i % 2 = 1 then u else x), .int .i64 (if i / 2 % 2 = 1 then v else y), .int .i64 (if i / 4 = 1 then w else z)]
def crn (x y z u v w : Int) (k : Nat) : List Value := (List.range k).flatMap (cor8 x y z u v w)
theorem crn_succ (x y z u v w : Int) (k : Nat) : crn x y z u v w (k + 1) = crn x y z u v w k ++ cor8 x y z u v w k := by simp [crn, List.range_succ]
theorem cor8_one {x y z u v w : Int} {i : Nat} : ∀ a ∈ cor8 x y z u v w i, a.oneCell' = true := by intro a ha; simp [cor8] at ha; rcases ha with rfl | rfl | rfl <;> rfl
theorem RdC.three {w : World} {B g : Nat} {a b c : Value} (h1 : w.cell? ⟨g, 0, none⟩ = some a) (h2 : w.cell? ⟨g, 1, none⟩ = some b) (h3 : w.cell? ⟨g, 2, none⟩ = some c) (hB : g < B) : RdC w B (some ⟨g, 0, none⟩) [a, b, c] := by
  refine .inr ⟨g, 0, rfl, hB, fun j u hu => ?_⟩
  match j, hu with
  | 0, hu => simp at hu; subst hu; exact h1
  | 1, hu => simp at hu; subst hu; exact h2
  | 2, hu => simp at hu; subst hu; exact h3
  | j + 3, hu => simp at hu
set_option maxHeartbeats 1600000 in
theorem corners_any (x y z u v w : Int) (W : World) : Calls Try.prog 41 #[.agg #[.int .i64 x, .int .i64 y, .int .i64 z, .int .i64 u, .int .i64 v, .int .i64 w]] W fun e w' =>
    ∃ r, e = .returned r ∧ w'.ownsRow W.heap.size 25 3 r 8 (crn x y z u v w 8) ∧ Below W.heap.size W w' := by
  obtain ⟨i0, hi0, hz0, hz1, hz2⟩ := info_parts Try.infoVec
  go_enter Try.func41, Try.ntmps41
  go_wp2
  go_loopw [3, 4] (fun s i wr => ∃ k : Nat, k ≤ 8 ∧ i = .int .i64 (k : Int) ∧ wr.ownsRow (W.heap.size + 1) 25 3 s k (crn x y z u v w k) ∧ (wr.cell? ⟨W.heap.size, 0, none⟩ = some (.int .i64 x) ∧ wr.cell? ⟨W.heap.size, 1, none⟩ = some (.int .i64 y) ∧ wr.cell? ⟨W.heap.size, 2, none⟩ = some (.int .i64 z) ∧ wr.cell? ⟨W.heap.size, 3, none⟩ = some (.int .i64 u) ∧ wr.cell? ⟨W.heap.size, 4, none⟩ = some (.int .i64 v) ∧ wr.cell? ⟨W.heap.size, 5, none⟩ = some (.int .i64 w)) ∧ W.heap.size < wr.heap.size ∧ Below W.heap.size W wr) (fun _ i _ => (8 - intOf i).toNat)
  case atStart =>
    refine ⟨0, by omega, rfl, by have q := World.ownsRow_made (base := W.heap.size + 1) (e := 25) (size := 3) (W.alloc (.cells #[.int .i64 x, .int .i64 y, .int .i64 z, .int .i64 u, .int .i64 v, .int .i64 w] 35)) #[] 0 (by simp) (Nat.zero_le _) (by simp); simpa [crn] using q, ⟨?_, ?_, ?_, ?_, ?_, ?_⟩, by simp; omega, bnew (bnew (Below.refl _ _) _) _⟩ <;> go_simp
  case round =>
    obtain ⟨k, hk, rfl, hv, ⟨c0, c1, c2, c3, c4, c5⟩, hlt, hb⟩ := hrel
    have hcr := crn_succ x y z u v w k
    rcases (by omega : k = 0 ∨ k = 1 ∨ k = 2 ∨ k = 3 ∨ k = 4 ∨ k = 5 ∨ k = 6 ∨ k = 7 ∨ k = 8) with rfl | rfl | rfl | rfl | rfl | rfl | rfl | rfl | rfl
    · go_wp2_with (at_builtin; refine wpList_append_rd _ rfl (.tmp 35) (.tmp 37) _ rfl (W.heap.size + 1) 25 i0 _ 3 24 Try.underlying68 hi0 hz0 hz1 hz2 rfl (by omega) _ 0 (crn x y z u v w 0) rfl ((hv.alloc _).alloc _) (wr.heap.size + 2) (some ⟨wr.heap.size + 1, 0, none⟩) 1 1 (cor8 x y z u v w 0) rfl rfl ?d3 cor8_one (by simp only [maxLen]; omega) (by omega) ?d7 ?_)
      case d3 => show RdC _ _ _ [.int .i64 x, .int .i64 y, .int .i64 z]; exact RdC.three (by go_simp) (by go_simp) (by go_simp) (by omega)
      case d7 => simp; omega
      intro v1 wA hown hgr hat
      have hlow := hv.lt
      have hbA : Below W.heap.size W wA := (bnew (bnew hb _) _).grown hgr (bnew (bnew hb _) _).size (fun g h => Nat.le_of_succ_le (hlow g h).1)
      have q0 : wA.cell? ⟨W.heap.size, 0, none⟩ = some (.int .i64 x) := hgr.cell (by go_simp) (fun e => Nat.not_succ_le_self _ (hlow W.heap.size e.symm).1)
      have q1 : wA.cell? ⟨W.heap.size, 1, none⟩ = some (.int .i64 y) := hgr.cell (by go_simp) (fun e => Nat.not_succ_le_self _ (hlow W.heap.size e.symm).1)
      have q2 : wA.cell? ⟨W.heap.size, 2, none⟩ = some (.int .i64 z) := hgr.cell (by go_simp) (fun e => Nat.not_succ_le_self _ (hlow W.heap.size e.symm).1)
      have q3 : wA.cell? ⟨W.heap.size, 3, none⟩ = some (.int .i64 u) := hgr.cell (by go_simp) (fun e => Nat.not_succ_le_self _ (hlow W.heap.size e.symm).1)
      have q4 : wA.cell? ⟨W.heap.size, 4, none⟩ = some (.int .i64 v) := hgr.cell (by go_simp) (fun e => Nat.not_succ_le_self _ (hlow W.heap.size e.symm).1)
      have q5 : wA.cell? ⟨W.heap.size, 5, none⟩ = some (.int .i64 w) := hgr.cell (by go_simp) (fun e => Nat.not_succ_le_self _ (hlow W.heap.size e.symm).1)
      have hltA : W.heap.size < wA.heap.size := by have := hgr.size; simp at this; omega
      go_wp2
      go_roundw
      case rel => exact ⟨0 + 1, by omega, rfl, by rw [hcr]; exact hown, ⟨q0, q1, q2, q3, q4, q5⟩, hltA, hbA⟩
      case measure => decide
    · go_wp2_with (at_builtin; refine wpList_append_rd _ rfl (.tmp 35) (.tmp 37) _ rfl (W.heap.size + 1) 25 i0 _ 3 24 Try.underlying68 hi0 hz0 hz1 hz2 rfl (by omega) _ 1 (crn x y z u v w 1) rfl ((hv.alloc _).alloc _) (wr.heap.size + 2) (some ⟨wr.heap.size + 1, 0, none⟩) 1 1 (cor8 x y z u v w 1) rfl rfl ?d3 cor8_one (by simp only [maxLen]; omega) (by omega) ?d7 ?_)
      case d3 => show RdC _ _ _ [.int .i64 u, .int .i64 y, .int .i64 z]; exact RdC.three (by go_simp) (by go_simp) (by go_simp) (by omega)
      case d7 => simp; omega
      intro v1 wA hown hgr hat
      have hlow := hv.lt
      have hbA : Below W.heap.size W wA := (bnew (bnew hb _) _).grown hgr (bnew (bnew hb _) _).size (fun g h => Nat.le_of_succ_le (hlow g h).1)
      have q0 : wA.cell? ⟨W.heap.size, 0, none⟩ = some (.int .i64 x) := hgr.cell (by go_simp) (fun e => Nat.not_succ_le_self _ (hlow W.heap.size e.symm).1)
      have q1 : wA.cell? ⟨W.heap.size, 1, none⟩ = some (.int .i64 y) := hgr.cell (by go_simp) (fun e => Nat.not_succ_le_self _ (hlow W.heap.size e.symm).1)
      have q2 : wA.cell? ⟨W.heap.size, 2, none⟩ = some (.int .i64 z) := hgr.cell (by go_simp) (fun e => Nat.not_succ_le_self _ (hlow W.heap.size e.symm).1)
      have q3 : wA.cell? ⟨W.heap.size, 3, none⟩ = some (.int .i64 u) := hgr.cell (by go_simp) (fun e => Nat.not_succ_le_self _ (hlow W.heap.size e.symm).1)
      have q4 : wA.cell? ⟨W.heap.size, 4, none⟩ = some (.int .i64 v) := hgr.cell (by go_simp) (fun e => Nat.not_succ_le_self _ (hlow W.heap.size e.symm).1)
      have q5 : wA.cell? ⟨W.heap.size, 5, none⟩ = some (.int .i64 w) := hgr.cell (by go_simp) (fun e => Nat.not_succ_le_self _ (hlow W.heap.size e.symm).1)
      have hltA : W.heap.size < wA.heap.size := by have := hgr.size; simp at this; omega
      go_wp2
      go_roundw
      case rel => exact ⟨1 + 1, by omega, rfl, by rw [hcr]; exact hown, ⟨q0, q1, q2, q3, q4, q5⟩, hltA, hbA⟩
      case measure => decide
    · go_wp2_with (at_builtin; refine wpList_append_rd _ rfl (.tmp 35) (.tmp 37) _ rfl (W.heap.size + 1) 25 i0 _ 3 24 Try.underlying68 hi0 hz0 hz1 hz2 rfl (by omega) _ 2 (crn x y z u v w 2) rfl ((hv.alloc _).alloc _) (wr.heap.size + 2) (some ⟨wr.heap.size + 1, 0, none⟩) 1 1 (cor8 x y z u v w 2) rfl rfl ?d3 cor8_one (by simp only [maxLen]; omega) (by omega) ?d7 ?_)
      case d3 => show RdC _ _ _ [.int .i64 x, .int .i64 v, .int .i64 z]; exact RdC.three (by go_simp) (by go_simp) (by go_simp) (by omega)
      case d7 => simp; omega
      intro v1 wA hown hgr hat
      have hlow := hv.lt
      have hbA : Below W.heap.size W wA := (bnew (bnew hb _) _).grown hgr (bnew (bnew hb _) _).size (fun g h => Nat.le_of_succ_le (hlow g h).1)
      have q0 : wA.cell? ⟨W.heap.size, 0, none⟩ = some (.int .i64 x) := hgr.cell (by go_simp) (fun e => Nat.not_succ_le_self _ (hlow W.heap.size e.symm).1)
      have q1 : wA.cell? ⟨W.heap.size, 1, none⟩ = some (.int .i64 y) := hgr.cell (by go_simp) (fun e => Nat.not_succ_le_self _ (hlow W.heap.size e.symm).1)
      have q2 : wA.cell? ⟨W.heap.size, 2, none⟩ = some (.int .i64 z) := hgr.cell (by go_simp) (fun e => Nat.not_succ_le_self _ (hlow W.heap.size e.symm).1)
      have q3 : wA.cell? ⟨W.heap.size, 3, none⟩ = some (.int .i64 u) := hgr.cell (by go_simp) (fun e => Nat.not_succ_le_self _ (hlow W.heap.size e.symm).1)
      have q4 : wA.cell? ⟨W.heap.size, 4, none⟩ = some (.int .i64 v) := hgr.cell (by go_simp) (fun e => Nat.not_succ_le_self _ (hlow W.heap.size e.symm).1)
      have q5 : wA.cell? ⟨W.heap.size, 5, none⟩ = some (.int .i64 w) := hgr.cell (by go_simp) (fun e => Nat.not_succ_le_self _ (hlow W.heap.size e.symm).1)
      have hltA : W.heap.size < wA.heap.size := by have := hgr.size; simp at this; omega
      go_wp2
      go_roundw
      case rel => exact ⟨2 + 1, by omega, rfl, by rw [hcr]; exact hown, ⟨q0, q1, q2, q3, q4, q5⟩, hltA, hbA⟩
      case measure => decide
    · go_wp2_with (at_builtin; refine wpList_append_rd _ rfl (.tmp 35) (.tmp 37) _ rfl (W.heap.size + 1) 25 i0 _ 3 24 Try.underlying68 hi0 hz0 hz1 hz2 rfl (by omega) _ 3 (crn x y z u v w 3) rfl ((hv.alloc _).alloc _) (wr.heap.size + 2) (some ⟨wr.heap.size + 1, 0, none⟩) 1 1 (cor8 x y z u v w 3) rfl rfl ?d3 cor8_one (by simp only [maxLen]; omega) (by omega) ?d7 ?_)
      case d3 => show RdC _ _ _ [.int .i64 u, .int .i64 v, .int .i64 z]; exact RdC.three (by go_simp) (by go_simp) (by go_simp) (by omega)
      case d7 => simp; omega
      intro v1 wA hown hgr hat
      have hlow := hv.lt
      have hbA : Below W.heap.size W wA := (bnew (bnew hb _) _).grown hgr (bnew (bnew hb _) _).size (fun g h => Nat.le_of_succ_le (hlow g h).1)
      have q0 : wA.cell? ⟨W.heap.size, 0, none⟩ = some (.int .i64 x) := hgr.cell (by go_simp) (fun e => Nat.not_succ_le_self _ (hlow W.heap.size e.symm).1)
      have q1 : wA.cell? ⟨W.heap.size, 1, none⟩ = some (.int .i64 y) := hgr.cell (by go_simp) (fun e => Nat.not_succ_le_self _ (hlow W.heap.size e.symm).1)
      have q2 : wA.cell? ⟨W.heap.size, 2, none⟩ = some (.int .i64 z) := hgr.cell (by go_simp) (fun e => Nat.not_succ_le_self _ (hlow W.heap.size e.symm).1)
      have q3 : wA.cell? ⟨W.heap.size, 3, none⟩ = some (.int .i64 u) := hgr.cell (by go_simp) (fun e => Nat.not_succ_le_self _ (hlow W.heap.size e.symm).1)
      have q4 : wA.cell? ⟨W.heap.size, 4, none⟩ = some (.int .i64 v) := hgr.cell (by go_simp) (fun e => Nat.not_succ_le_self _ (hlow W.heap.size e.symm).1)
      have q5 : wA.cell? ⟨W.heap.size, 5, none⟩ = some (.int .i64 w) := hgr.cell (by go_simp) (fun e => Nat.not_succ_le_self _ (hlow W.heap.size e.symm).1)
      have hltA : W.heap.size < wA.heap.size := by have := hgr.size; simp at this; omega
      go_wp2
      go_roundw
      case rel => exact ⟨3 + 1, by omega, rfl, by rw [hcr]; exact hown, ⟨q0, q1, q2, q3, q4, q5⟩, hltA, hbA⟩
      case measure => decide
    · go_wp2_with (at_builtin; refine wpList_append_rd _ rfl (.tmp 35) (.tmp 37) _ rfl (W.heap.size + 1) 25 i0 _ 3 24 Try.underlying68 hi0 hz0 hz1 hz2 rfl (by omega) _ 4 (crn x y z u v w 4) rfl ((hv.alloc _).alloc _) (wr.heap.size + 2) (some ⟨wr.heap.size + 1, 0, none⟩) 1 1 (cor8 x y z u v w 4) rfl rfl ?d3 cor8_one (by simp only [maxLen]; omega) (by omega) ?d7 ?_)
      case d3 => show RdC _ _ _ [.int .i64 x, .int .i64 y, .int .i64 w]; exact RdC.three (by go_simp) (by go_simp) (by go_simp) (by omega)
      case d7 => simp; omega
      intro v1 wA hown hgr hat
      have hlow := hv.lt
      have hbA : Below W.heap.size W wA := (bnew (bnew hb _) _).grown hgr (bnew (bnew hb _) _).size (fun g h => Nat.le_of_succ_le (hlow g h).1)
      have q0 : wA.cell? ⟨W.heap.size, 0, none⟩ = some (.int .i64 x) := hgr.cell (by go_simp) (fun e => Nat.not_succ_le_self _ (hlow W.heap.size e.symm).1)
      have q1 : wA.cell? ⟨W.heap.size, 1, none⟩ = some (.int .i64 y) := hgr.cell (by go_simp) (fun e => Nat.not_succ_le_self _ (hlow W.heap.size e.symm).1)
      have q2 : wA.cell? ⟨W.heap.size, 2, none⟩ = some (.int .i64 z) := hgr.cell (by go_simp) (fun e => Nat.not_succ_le_self _ (hlow W.heap.size e.symm).1)
      have q3 : wA.cell? ⟨W.heap.size, 3, none⟩ = some (.int .i64 u) := hgr.cell (by go_simp) (fun e => Nat.not_succ_le_self _ (hlow W.heap.size e.symm).1)
      have q4 : wA.cell? ⟨W.heap.size, 4, none⟩ = some (.int .i64 v) := hgr.cell (by go_simp) (fun e => Nat.not_succ_le_self _ (hlow W.heap.size e.symm).1)
      have q5 : wA.cell? ⟨W.heap.size, 5, none⟩ = some (.int .i64 w) := hgr.cell (by go_simp) (fun e => Nat.not_succ_le_self _ (hlow W.heap.size e.symm).1)
      have hltA : W.heap.size < wA.heap.size := by have := hgr.size; simp at this; omega
      go_wp2
      go_roundw
      case rel => exact ⟨4 + 1, by omega, rfl, by rw [hcr]; exact hown, ⟨q0, q1, q2, q3, q4, q5⟩, hltA, hbA⟩
      case measure => decide
    · go_wp2_with (at_builtin; refine wpList_append_rd _ rfl (.tmp 35) (.tmp 37) _ rfl (W.heap.size + 1) 25 i0 _ 3 24 Try.underlying68 hi0 hz0 hz1 hz2 rfl (by omega) _ 5 (crn x y z u v w 5) rfl ((hv.alloc _).alloc _) (wr.heap.size + 2) (some ⟨wr.heap.size + 1, 0, none⟩) 1 1 (cor8 x y z u v w 5) rfl rfl ?d3 cor8_one (by simp only [maxLen]; omega) (by omega) ?d7 ?_)
      case d3 => show RdC _ _ _ [.int .i64 u, .int .i64 y, .int .i64 w]; exact RdC.three (by go_simp) (by go_simp) (by go_simp) (by omega)
      case d7 => simp; omega
      intro v1 wA hown hgr hat
      have hlow := hv.lt
      have hbA : Below W.heap.size W wA := (bnew (bnew hb _) _).grown hgr (bnew (bnew hb _) _).size (fun g h => Nat.le_of_succ_le (hlow g h).1)
      have q0 : wA.cell? ⟨W.heap.size, 0, none⟩ = some (.int .i64 x) := hgr.cell (by go_simp) (fun e => Nat.not_succ_le_self _ (hlow W.heap.size e.symm).1)
      have q1 : wA.cell? ⟨W.heap.size, 1, none⟩ = some (.int .i64 y) := hgr.cell (by go_simp) (fun e => Nat.not_succ_le_self _ (hlow W.heap.size e.symm).1)
      have q2 : wA.cell? ⟨W.heap.size, 2, none⟩ = some (.int .i64 z) := hgr.cell (by go_simp) (fun e => Nat.not_succ_le_self _ (hlow W.heap.size e.symm).1)
      have q3 : wA.cell? ⟨W.heap.size, 3, none⟩ = some (.int .i64 u) := hgr.cell (by go_simp) (fun e => Nat.not_succ_le_self _ (hlow W.heap.size e.symm).1)
      have q4 : wA.cell? ⟨W.heap.size, 4, none⟩ = some (.int .i64 v) := hgr.cell (by go_simp) (fun e => Nat.not_succ_le_self _ (hlow W.heap.size e.symm).1)
      have q5 : wA.cell? ⟨W.heap.size, 5, none⟩ = some (.int .i64 w) := hgr.cell (by go_simp) (fun e => Nat.not_succ_le_self _ (hlow W.heap.size e.symm).1)
      have hltA : W.heap.size < wA.heap.size := by have := hgr.size; simp at this; omega
      go_wp2
      go_roundw
      case rel => exact ⟨5 + 1, by omega, rfl, by rw [hcr]; exact hown, ⟨q0, q1, q2, q3, q4, q5⟩, hltA, hbA⟩
      case measure => decide
    · go_wp2_with (at_builtin; refine wpList_append_rd _ rfl (.tmp 35) (.tmp 37) _ rfl (W.heap.size + 1) 25 i0 _ 3 24 Try.underlying68 hi0 hz0 hz1 hz2 rfl (by omega) _ 6 (crn x y z u v w 6) rfl ((hv.alloc _).alloc _) (wr.heap.size + 2) (some ⟨wr.heap.size + 1, 0, none⟩) 1 1 (cor8 x y z u v w 6) rfl rfl ?d3 cor8_one (by simp only [maxLen]; omega) (by omega) ?d7 ?_)
      case d3 => show RdC _ _ _ [.int .i64 x, .int .i64 v, .int .i64 w]; exact RdC.three (by go_simp) (by go_simp) (by go_simp) (by omega)
      case d7 => simp; omega
      intro v1 wA hown hgr hat
      have hlow := hv.lt
      have hbA : Below W.heap.size W wA := (bnew (bnew hb _) _).grown hgr (bnew (bnew hb _) _).size (fun g h => Nat.le_of_succ_le (hlow g h).1)
      have q0 : wA.cell? ⟨W.heap.size, 0, none⟩ = some (.int .i64 x) := hgr.cell (by go_simp) (fun e => Nat.not_succ_le_self _ (hlow W.heap.size e.symm).1)
      have q1 : wA.cell? ⟨W.heap.size, 1, none⟩ = some (.int .i64 y) := hgr.cell (by go_simp) (fun e => Nat.not_succ_le_self _ (hlow W.heap.size e.symm).1)
      have q2 : wA.cell? ⟨W.heap.size, 2, none⟩ = some (.int .i64 z) := hgr.cell (by go_simp) (fun e => Nat.not_succ_le_self _ (hlow W.heap.size e.symm).1)
      have q3 : wA.cell? ⟨W.heap.size, 3, none⟩ = some (.int .i64 u) := hgr.cell (by go_simp) (fun e => Nat.not_succ_le_self _ (hlow W.heap.size e.symm).1)
      have q4 : wA.cell? ⟨W.heap.size, 4, none⟩ = some (.int .i64 v) := hgr.cell (by go_simp) (fun e => Nat.not_succ_le_self _ (hlow W.heap.size e.symm).1)
      have q5 : wA.cell? ⟨W.heap.size, 5, none⟩ = some (.int .i64 w) := hgr.cell (by go_simp) (fun e => Nat.not_succ_le_self _ (hlow W.heap.size e.symm).1)
      have hltA : W.heap.size < wA.heap.size := by have := hgr.size; simp at this; omega
      go_wp2
      go_roundw
      case rel => exact ⟨6 + 1, by omega, rfl, by rw [hcr]; exact hown, ⟨q0, q1, q2, q3, q4, q5⟩, hltA, hbA⟩
      case measure => decide
    · go_wp2_with (at_builtin; refine wpList_append_rd _ rfl (.tmp 35) (.tmp 37) _ rfl (W.heap.size + 1) 25 i0 _ 3 24 Try.underlying68 hi0 hz0 hz1 hz2 rfl (by omega) _ 7 (crn x y z u v w 7) rfl ((hv.alloc _).alloc _) (wr.heap.size + 2) (some ⟨wr.heap.size + 1, 0, none⟩) 1 1 (cor8 x y z u v w 7) rfl rfl ?d3 cor8_one (by simp only [maxLen]; omega) (by omega) ?d7 ?_)
      case d3 => show RdC _ _ _ [.int .i64 u, .int .i64 v, .int .i64 w]; exact RdC.three (by go_simp) (by go_simp) (by go_simp) (by omega)
      case d7 => simp; omega
      intro v1 wA hown hgr hat
      have hlow := hv.lt
      have hbA : Below W.heap.size W wA := (bnew (bnew hb _) _).grown hgr (bnew (bnew hb _) _).size (fun g h => Nat.le_of_succ_le (hlow g h).1)
      have q0 : wA.cell? ⟨W.heap.size, 0, none⟩ = some (.int .i64 x) := hgr.cell (by go_simp) (fun e => Nat.not_succ_le_self _ (hlow W.heap.size e.symm).1)
      have q1 : wA.cell? ⟨W.heap.size, 1, none⟩ = some (.int .i64 y) := hgr.cell (by go_simp) (fun e => Nat.not_succ_le_self _ (hlow W.heap.size e.symm).1)
      have q2 : wA.cell? ⟨W.heap.size, 2, none⟩ = some (.int .i64 z) := hgr.cell (by go_simp) (fun e => Nat.not_succ_le_self _ (hlow W.heap.size e.symm).1)
      have q3 : wA.cell? ⟨W.heap.size, 3, none⟩ = some (.int .i64 u) := hgr.cell (by go_simp) (fun e => Nat.not_succ_le_self _ (hlow W.heap.size e.symm).1)
      have q4 : wA.cell? ⟨W.heap.size, 4, none⟩ = some (.int .i64 v) := hgr.cell (by go_simp) (fun e => Nat.not_succ_le_self _ (hlow W.heap.size e.symm).1)
      have q5 : wA.cell? ⟨W.heap.size, 5, none⟩ = some (.int .i64 w) := hgr.cell (by go_simp) (fun e => Nat.not_succ_le_self _ (hlow W.heap.size e.symm).1)
      have hltA : W.heap.size < wA.heap.size := by have := hgr.size; simp at this; omega
      go_wp2
      go_roundw
      case rel => exact ⟨7 + 1, by omega, rfl, by rw [hcr]; exact hown, ⟨q0, q1, q2, q3, q4, q5⟩, hltA, hbA⟩
      case measure => decide
    · go_wp2
      go_ret
      exact ⟨_, rfl, own_base hv (Nat.le_succ _), hb⟩
end Go.Proofs.Ytdcblfibkoiflaa
