/- normal: the normal form of valid intervals. -/
import Derived.Test.YtekjhdpadddkpaaSpanG
import Derived.Test.YtekjhdpadddkpaaSpanM
import Derived.BigRegion
import Derived.Laws.OwnMore
namespace Go.Proofs.Ytekjhdpadddkpaa
open Go.RowKit

/-- zs is the normal form of the numbers of xs. -/
def NFof (xs zs : List (Int × Int)) : Prop := NF zs ∧ ∀ n, InI zs n ↔ InI xs n
def ValidI (xs : List (Int × Int)) : Prop := ∀ x ∈ xs, -1000000000000 ≤ x.1 ∧ x.1 ≤ x.2 ∧ x.2 ≤ 1000000000000
theorem NFof.bounds {xs zs : List (Int × Int)} (h : NFof xs zs) (hv : ValidI xs) : ValidI zs := by
  intro z hz
  have h1 := h.1.valid z hz
  obtain ⟨x, hx, a1, a2⟩ := (h.2 z.1).1 ⟨z, hz, Int.le_refl _, h1⟩
  obtain ⟨y, hy, b1, b2⟩ := (h.2 z.2).1 ⟨z, hz, h1, Int.le_refl _⟩
  have := hv x hx
  have := hv y hy
  omega

theorem sorted_pw {ys : List (Int × Int)} (h : SortedLo ys) : ys.Pairwise fun x y => x.1 ≤ y.1 := by
  rw [List.pairwise_iff_getElem]
  intro i j hi hj hij
  exact h i j _ _ hij (List.getElem?_eq_getElem hi) (List.getElem?_eq_getElem hj)
theorem mrg_take {ys : List (Int × Int)} (hs : SortedLo ys) (hv : ValidI ys) (k : Nat) : NFof (ys.take k) (mrg (ys.take k)) := by
  have hp := (sorted_pw hs).sublist (List.take_sublist k ys)
  have h := mrg_joined (ys.take k) (fun x hx => (hv x (List.mem_of_mem_take hx)).2.1) hp 1000000000000 (fun x hx => by have := hv x (List.mem_of_mem_take hx); omega)
  exact ⟨h.nf, h.same⟩
theorem mrg_succ {ys : List (Int × Int)} {k : Nat} {x : Int × Int} (h : ys[k]? = some x) : mrg (ys.take (k + 1)) = push (mrg (ys.take k)) x := by
  rw [List.take_add_one, h]
  exact mrg_snoc _ _

theorem RdC.two {w : World} {B g : Nat} {a b : Value} (h1 : w.cell? ⟨g, 0, none⟩ = some a) (h2 : w.cell? ⟨g, 1, none⟩ = some b) (hB : g < B) : RdC w B (some ⟨g, 0, none⟩) [a, b] := by
  refine .inr ⟨g, 0, rfl, hB, fun j u hu => ?_⟩
  match j, hu with
  | 0, hu => simp at hu; subst hu; exact h1
  | 1, hu => simp at hu; subst hu; exact h2
  | j + 2, hu => simp at hu

theorem OwnI.last {w : World} {base : Nat} {v : Value} {init : List (Int × Int)} {l : Int × Int} (h : OwnI w base v (init ++ [l])) :
    ∃ g cap, v = .slice (some ⟨g, 0, none⟩) (init.length + 1) cap ∧ base ≤ g ∧ g < w.heap.size ∧ w.cell? ⟨g, init.length * 2, none⟩ = some (.int .i64 l.1) ∧ w.cell? ⟨g, init.length * 2 + 1, none⟩ = some (.int .i64 l.2) ∧
      w.frozen? ⟨g, init.length * 2 + 1, none⟩ = false := by
  have hlen : (init ++ [l]).length = init.length + 1 := by simp
  obtain ⟨g, cap, hv⟩ : ∃ g cap, v = .slice (some ⟨g, 0, none⟩) (init ++ [l]).length cap := by
    rcases h.2 with ⟨_, hn⟩ | ⟨g', cap, cur, hv, _⟩
    · rw [hlen] at hn; omega
    · exact ⟨g', cap, hv⟩
  subst hv
  have hlt := h.lt g rfl
  have hx : (init ++ [l])[init.length]? = some l := by simp
  obtain ⟨c1, c2⟩ := cellsI_get hx
  refine ⟨g, cap, by rw [hlen], hlt.1, hlt.2, ?_, ?_, h.frozenAt _⟩
  · rw [h.cellAt _ (by rw [hlen]; omega)]; exact c1
  · rw [h.cellAt _ (by rw [hlen]; omega)]; exact c2
theorem cellsI_set (init : List (Int × Int)) (l : Int × Int) (z : Int) : (cellsI (init ++ [l])).set (init.length * 2 + 1) (.int .i64 z) = cellsI (init ++ [(l.1, z)]) := by
  rw [cellsI_append, cellsI_append, List.set_append_right _ _ (by simp), length_cellsI, show init.length * 2 + 1 - init.length * 2 = 1 by omega]
  simp [cellsI]
theorem OwnI.setLast {w : World} {base g cap n : Nat} {init : List (Int × Int)} {l : Int × Int} (h : OwnI w base (.slice (some ⟨g, 0, none⟩) n cap) (init ++ [l])) (hn : n = init.length + 1) (z : Int) :
    OwnI (w.setCell ⟨g, init.length * 2 + 1, none⟩ (.int .i64 z)) base (.slice (some ⟨g, 0, none⟩) n cap) (init ++ [(l.1, z)]) := by
  subst hn
  have hlen : (init ++ [l]).length = init.length + 1 := by simp
  unfold OwnI at h
  rw [hlen] at h
  have := (h.stored (init.length * 2 + 1) (.int .i64 z)).1
  rw [cellsI_set] at this
  simpa [OwnI] using this

set_option maxHeartbeats 1600000 in
theorem normal_any (A : Option Addr) (n c : Nat) (xs : List (Int × Int)) (w : World) (hx : RdI w w.heap.size A xs) (hn : Hid (n = xs.length)) (hv : ValidI xs) (hlen : xs.length ≤ 1099511627776) :
    Calls Try.prog 46 #[.slice A n c] w fun e w' => ∃ v zs, e = .returned v ∧ OwnI w' w.heap.size v zs ∧ NFof xs zs ∧ Below w.heap.size w w' := by
  obtain ⟨i0, hi0, hz0, hz1, hz2⟩ := info_parts Try.infoIv
  go_enter Try.func46, Try.ntmps46
  go_wp2_with fail
  refine (clone_any A n c xs _ hx hn hlen).mono ?_
  rintro e w1 ⟨v, rfl, hv1, hb1⟩
  obtain ⟨A1, c1, rfl, -⟩ := hv1.rd
  go_wp2_with fail
  refine (sort_any A1 _ c1 xs _ _ hv1 hlen).mono ?_
  rintro e w2 ⟨rfl, ys, hperm, hsort, hyl, hr, hb2⟩
  have hvy : ValidI ys := fun y hy => hv y (hperm.mem_iff.1 hy)
  have hlen' : ys.length ≤ 1099511627776 := by omega
  have HL := Lib.hid hyl
  rw [← hyl]
  clear hyl
  go_wp2
  go_loopw [4, 14] (fun v i wr => ∃ k : Nat, k ≤ ys.length ∧ i = .int .i64 k ∧ OwnI wr w2.heap.size v (mrg (ys.take k)) ∧ Below w2.heap.size w2 wr) (fun _ i _ => ys.length - (intOf i).toNat)
  case atStart => exact ⟨0, Nat.zero_le _, rfl, World.ownsRow_nil _ _ _ _, Below.refl _ _⟩
  case round =>
    obtain ⟨k, hk, rfl, hvo, hb⟩ := hrel
    by_cases hlt : k < ys.length
    · obtain ⟨b, off, x, rfl, hB, hx', h1, h2⟩ := (hr.below hb) k hlt
      have hxv := hvy x (List.mem_of_getElem? hx')
      have hmk := mrg_take hsort hvy k
      have HS : Hid (mrg (ys.take (k + 1)) = push (mrg (ys.take k)) x) := Lib.hid (mrg_succ hx')
      clear hx'
      have hml := mrg_len (ys.take k)
      rw [List.length_take] at hml
      generalize mrg (ys.take k) = out at hvo hmk HS hml
      rcases hl : out.getLast? with _ | l
      · obtain rfl : out = [] := by simpa using hl
        have HP : Hid (push [] x = [x]) := Lib.hid rfl
        obtain ⟨A4, c4, rfl, hr4⟩ := hvo.rd
        clear hl hr4
        go_wp2
        go_quiet (fail)
        go_wp2_with (at_builtin; refine wpList_append_rd _ rfl (.tmp 46) (.tmp 48) _ rfl w2.heap.size 23 i0 _ 2 16 Try.underlying33 hi0 hz0 hz1 hz2 rfl (by omega) _ 0 [] rfl ((hvo.alloc _).alloc _) (wr.heap.size + 2) (some ⟨wr.heap.size + 1, 0, none⟩) 1 1 (cellsI [x]) rfl rfl ?c3 cellsI_one (by simp only [maxLen]; omega) (by omega) ?c7 ?_)
        case c3 => show RdC _ _ _ [.int .i64 x.1, .int .i64 x.2]; exact RdC.two (by go_simp) (by go_simp) (by omega)
        case c7 => have := hb.size; simp; omega
        intro v1 wA hown hg hat
        have hlo := hvo.lt
        have hbA : Below w2.heap.size w2 wA := ((below_drewN (hb.alloc hb.size _) _).alloc (by have := hb.size; simp; omega) _).grown hg (by have := hb.size; simp; omega) (fun g h => (hlo g h).1)
        go_wp2
        go_roundw
        case rel => exact ⟨k + 1, by omega, by go_num, by rw [HS.out, HP.out]; simpa [OwnI] using hown, hbA⟩
        case measure => simp [intOf]; omega
      · obtain ⟨init, rfl⟩ : ∃ init, out = init ++ [l] := by
          have hne : out ≠ [] := by rintro rfl; simp at hl
          refine ⟨out.dropLast, ?_⟩
          have := List.dropLast_concat_getLast hne
          rw [List.getLast?_eq_some_getLast hne] at hl
          cases hl
          exact this.symm
        have hil : init.length + 1 ≤ k := by simp at hml; omega
        clear hml
        have hpush : push (init ++ [l]) x = if x.1 ≤ l.2 + 1 then init ++ [(l.1, if l.2 < x.2 then x.2 else l.2)] else init ++ [l] ++ [x] := by
          simp [push]
        have hlb := (hmk.bounds (fun y hy => hvy y (List.mem_of_mem_take hy))) l (by simp)
        obtain ⟨g, cap, rfl, hgb, hgl, k1, k2, k3⟩ := hvo.last
        clear hl
        by_cases hc : x.1 ≤ l.2 + 1
        · rw [if_pos hc] at hpush
          have HP := Lib.hid hpush
          clear hpush
          go_wp2
          have hge : (0 : Int) ≤ (init.length : Int) := by omega
          have hcd : decide (x.1 ≤ l.2 + 1) = true := by simpa using hc
          have hix : (init.length : Int) < (init.length : Int) + 1 := by omega
          go_wp2
          go_quiet (fail)
          go_wp2
          go_region
          go_wp2
          go_roundw
          case rel =>
            have hv1 := (show OwnI ((wr.alloc (Obj.cells #[Value.int IntKind.i64 x.fst, Value.int IntKind.i64 x.snd] 23)).drewN (nq + 1)) w2.heap.size (.slice (some ⟨g, 0, none⟩) (init.length + 1) cap) (init ++ [l]) from World.ownsRow.alloc hvo _).setLast rfl (max l.2 x.2)
            have hm : (if l.2 < x.2 then x.2 else l.2) = max l.2 x.2 := by split <;> omega
            exact ⟨k + 1, by omega, by go_num, by rw [HS.out, HP.out, hm]; exact hv1, (below_drewN (hb.alloc hb.size _) _).setCell hgb _⟩
          case measure => simp [intOf]; omega
        · rw [if_neg hc] at hpush
          have HP := Lib.hid hpush
          clear hpush
          have hge : (0 : Int) ≤ (init.length : Int) := by omega
          have hcd : decide (x.1 ≤ l.2 + 1) = false := by simpa using hc
          have hix : (init.length : Int) < (init.length : Int) + 1 := by omega
          go_wp2
          go_quiet (fail)
          go_wp2_with (at_builtin; refine wpList_append_rd _ rfl (.tmp 46) (.tmp 48) _ rfl w2.heap.size 23 i0 _ 2 16 Try.underlying33 hi0 hz0 hz1 hz2 rfl (by omega) (.slice (some ⟨g, 0, none⟩) (init.length + 1) cap) (init.length + 1) (cellsI (init ++ [l])) rfl ?c0 (wr.heap.size + 2) (some ⟨wr.heap.size + 1, 0, none⟩) 1 1 (cellsI [x]) rfl rfl ?c3 cellsI_one (by simp only [maxLen]; omega) (by omega) ?c7 ?_)
          case c0 =>
            have h0 := World.ownsRow.alloc hvo (Obj.cells #[Value.int IntKind.i64 x.fst, Value.int IntKind.i64 x.snd] 23)
            have e0 : (init ++ [l]).length = init.length + 1 := by simp
            rw [e0] at h0
            exact World.ownsRow.alloc (w := (wr.alloc _).drewN _) h0 _
          case c3 => show RdC _ _ _ [.int .i64 x.1, .int .i64 x.2]; exact RdC.two (by go_simp) (by go_simp) (by omega)
          case c7 => have := hb.size; simp; omega
          intro v1 wA hown hg hat
          have hlo := hvo.lt
          have hbA : Below w2.heap.size w2 wA := ((below_drewN (hb.alloc hb.size _) _).alloc (by have := hb.size; simp; omega) _).grown hg (by have := hb.size; simp; omega) (fun g h => (hlo g h).1)
          go_wp2
          go_roundw
          case rel => exact ⟨k + 1, by omega, by go_num, by rw [HS.out, HP.out]; unfold OwnI; rw [show (init ++ [l] ++ [x]).length = init.length + 1 + 1 by simp, cellsI_append (init ++ [l])]; exact hown, hbA⟩
          case measure => simp [intOf]; omega
    · have hk' : k = ys.length := by omega
      subst hk'
      rw [List.take_length] at hvo
      have hnf : NFof xs (mrg ys) := by
        have h := mrg_take hsort hvy ys.length
        rw [List.take_length] at h
        exact ⟨h.1, fun n => (h.2 n).trans (InI_perm hperm n)⟩
      go_wp2
      go_ret
      refine ⟨_, mrg ys, rfl, ?_, hnf, ?_⟩
      · exact own_base hvo (hb1.trans hb2).size
      · exact (hb1.trans hb2).trans (hb.mono (hb1.trans hb2).size)
end Go.Proofs.Ytekjhdpadddkpaa
