/- Grow of the nil slice, Concat, checkLists. -/
import Derived.Test.YtekjhdpadddkpaaSpanD
import Derived.Lib.AppendZerosOnto
namespace Go.Proofs.Ytekjhdpadddkpaa
open Go.RowKit

set_option maxHeartbeats 400000 in
theorem grow_any (n : Nat) (w : World) (hn : n ≤ 1099511627776) :
    Calls Try.prog 57 #[.slice none 0 0, .int .i64 n] w fun e w' => ∃ v, e = .returned v ∧ OwnI w' w.heap.size v [] ∧ Below w.heap.size w w' := by
  obtain ⟨i0, hi0, hz0, hz1, hz2⟩ := info_parts Try.infoIv
  by_cases h0 : n = 0
  · subst h0
    go_enter Try.func57, Try.ntmps57
    go_wp2
    go_ret
    exact ⟨_, rfl, World.ownsRow_nil _ _ _ _, Below.refl _ _⟩
  · have hrz : ∀ ty, (Builtin.append_ #[33, 3] ty #[.slice none 0 0, .int .i64 (n : Int)]).run Try.prog w =
        .ok (.slice (some ⟨w.heap.size, 0, none⟩) (0 + n) (grownCap w (0 + n) 0 23)) (w.drew.alloc (.cells (([] : List Value).toArray ++ Builtin.zeroCells (Value.agg #[.int .i64 0, .int .i64 0]).cells n ++ Builtin.zeroCells (Value.agg #[.int .i64 0, .int .i64 0]).cells (grownCap w (0 + n) 0 23 - (0 + n))) 23)) := fun ty =>
      Lib.run_append_grow_zeros w 33 3 ty 23 i0 _ .i64 .i64 Try.underlying33 Try.underlying3 hi0 hz0 none 0 0 [] (by exact run_firstCells_none w.drew i0.size 0 0 0) n (by omega) (by omega) (by omega) (by omega) (by rw [hz2]; omega)
        (by rw [hz2]; exact growslice_fits (by omega) (by omega))
    obtain ⟨G, hG⟩ : ∃ G, G = grownCap w (0 + n) 0 23 := ⟨_, rfl⟩
    have hGn : 0 + n ≤ G := by rw [hG]; exact grownCap_ge w _ _ _
    have hGm : G ≤ maxLen := by rw [hG]; exact grownCap_le_maxLen w _ _ _ (by unfold maxLen; omega)
    rw [← hG] at hrz
    have hsz : (([] : List Value).toArray ++ Builtin.zeroCells (Value.agg #[.int .i64 0, .int .i64 0]).cells n ++ Builtin.zeroCells (Value.agg #[.int .i64 0, .int .i64 0]).cells (G - (0 + n))).size = G * 2 := by
      simp only [Array.size_append, size_zeroCells, List.size_toArray, List.length_nil, Value.cells]
      show 0 + n * 2 + (G - (0 + n)) * 2 = G * 2
      omega
    generalize (([] : List Value).toArray ++ Builtin.zeroCells (Value.agg #[.int .i64 0, .int .i64 0]).cells n ++ Builtin.zeroCells (Value.agg #[.int .i64 0, .int .i64 0]).cells (G - (0 + n))) = C at hrz hsz
    have HZ := Lib.hid hsz
    have HG := Lib.hid hG
    clear hG hsz
    have hG63 : (G : Int) ≤ 9223372036854775807 := by unfold maxLen at hGm; omega
    go_enter Try.func57, Try.ntmps57
    go_wp2_with (at_builtin; refine Lib.wpList_append_run _ rfl _ _ _ _ rfl _ _ rfl rfl _ _ (hrz _) ?_)
    all_goals
      go_ret
      refine ⟨_, rfl, ?_, ?_⟩
      · exact World.ownsRow_made w.drew C G (Nat.le_refl _) hGm HZ.out
      · exact ((Below.refl _ w).drew).alloc (by simp) _

/-- Block g holds the slice values of the lists ls, each of which reads (its address, its capacity, its intervals). -/
def RdL (w : World) (B g : Nat) (ls : List (Option Addr × Nat × List (Int × Int))) : Prop :=
  ∀ i p, ls[i]? = some p → w.cell? ⟨g, i, none⟩ = some (.slice p.1 p.2.2.length p.2.1) ∧ RdI w B p.1 p.2.2
def pref (ls : List (Option Addr × Nat × List (Int × Int))) (k : Nat) : List (Int × Int) := (ls.take k).flatMap (·.2.2)
theorem pref_zero (ls : List (Option Addr × Nat × List (Int × Int))) : pref ls 0 = [] := by simp [pref]
theorem pref_succ {ls : List (Option Addr × Nat × List (Int × Int))} {k : Nat} {p : Option Addr × Nat × List (Int × Int)} (h : ls[k]? = some p) : pref ls (k + 1) = pref ls k ++ p.2.2 := by
  simp [pref, List.take_add_one, h]
theorem pref_all {ls : List (Option Addr × Nat × List (Int × Int))} {k : Nat} (h : ls.length ≤ k) : pref ls k = ls.flatMap (·.2.2) := by
  rw [pref, List.take_of_length_le h]
theorem pref_le (ls : List (Option Addr × Nat × List (Int × Int))) (k : Nat) : (pref ls k).length ≤ (ls.flatMap (·.2.2)).length := by
  conv => rhs; rw [← List.take_append_drop k ls]
  simp only [pref, List.flatMap_append, List.length_append]
  omega
theorem RdL.below {w w' : World} {B g : Nat} {ls : List (Option Addr × Nat × List (Int × Int))} (h : RdL w B g ls) (hb : Below B w w') (hg : g < B) : RdL w' B g ls := by
  intro i p hp
  obtain ⟨h1, h2⟩ := h i p hp
  exact ⟨(hb.cell (p := ⟨g, i, none⟩) hg).trans h1, h2.below hb⟩

set_option maxHeartbeats 800000 in
theorem concat_any (g c : Nat) (ls : List (Option Addr × Nat × List (Int × Int))) (w : World) (hg : g < w.heap.size) (hx : RdL w w.heap.size g ls) (hlen : ls.length ≤ 1000) (htot : (ls.flatMap (·.2.2)).length ≤ 1099511627776) :
    Calls Try.prog 47 #[.slice (some ⟨g, 0, none⟩) ls.length c] w fun e w' => ∃ v, e = .returned v ∧ OwnI w' w.heap.size v (ls.flatMap (·.2.2)) ∧ Below w.heap.size w w' := by
  obtain ⟨i0, hi0, hz0, hz1, hz2⟩ := info_parts Try.infoIv
  go_enter Try.func47, Try.ntmps47
  go_wp2
  go_loop [3, 11] (fun s i => ∃ k : Nat, k ≤ ls.length ∧ i = .int .i64 k ∧ s = .int .i64 (pref ls k).length) (fun _ i => ls.length - (intOf i).toNat)
  case atStart => exact ⟨0, Nat.zero_le _, rfl, by rw [pref_zero]; rfl⟩
  case round =>
    obtain ⟨k, hk, rfl, rfl⟩ := hrel
    have hle := pref_le ls k
    by_cases hlt : k < ls.length
    · have hp := List.getElem?_eq_getElem hlt
      generalize ls[k] = p at hp
      obtain ⟨h1, h2⟩ := hx k p hp
      have hs : Hid ((pref ls (k + 1)).length = (pref ls k).length + p.2.2.length) := Lib.hid (by rw [pref_succ hp, List.length_append])
      have hle' := pref_le ls (k + 1)
      rw [hs.out] at hle'
      clear hp h2
      go_wp2
      go_round
      case rel => exact ⟨k + 1, by omega, by go_num, by rw [hs.out]; go_num⟩
      case measure => simp [intOf]; omega
    · go_wp2_with fail
      refine (grow_any (pref ls k).length _ (by omega)).mono ?_
      rintro e w1 ⟨v, rfl, hv, hb1⟩
      clear hk hlt hle
      go_wp2
      go_loopw [6, 27] (fun v i wr => ∃ k : Nat, k ≤ ls.length ∧ i = .int .i64 k ∧ OwnI wr w.heap.size v (pref ls k) ∧ Below w.heap.size w wr) (fun _ i _ => ls.length - (intOf i).toNat)
      case atStart => exact ⟨0, Nat.zero_le _, rfl, by rw [pref_zero]; exact hv, hb1⟩
      case round =>
        clear hb1 hv
        obtain ⟨k, hk, rfl, hv, hb⟩ := hrel
        by_cases hlt : k < ls.length
        · have hp := List.getElem?_eq_getElem hlt
          generalize ls[k] = p at hp
          obtain ⟨h1, h2⟩ := (hx.below hb hg) k p hp
          have hs : Hid (pref ls (k + 1) = pref ls k ++ p.2.2) := Lib.hid (pref_succ hp)
          have hle' := pref_le ls (k + 1)
          rw [hs.out, List.length_append] at hle'
          clear hp
          go_wp2_with (at_builtin; refine wpList_append_rd _ rfl (.tmp 31) (.tmp 32) _ rfl w.heap.size 23 i0 _ 2 16 Try.underlying33 hi0 hz0 hz1 hz2 rfl (by omega) _ _ (cellsI (pref ls k)) rfl hv w.heap.size p.1 p.2.2.length p.2.1 (cellsI p.2.2) rfl ?c2 h2.cells ?c4 ?c5 ?c6 hb.size ?_)
          case c2 => simp
          case c4 => exact cellsI_one
          case c5 => simp only [maxLen]; omega
          case c6 => omega
          intro v1 w1 hown hgr hat
          have hl := hv.lt
          go_wp2
          go_roundw
          case rel => exact ⟨k + 1, by omega, by go_num, by rw [hs.out]; simpa [OwnI, cellsI_append] using hown, hb.grown hgr hb.size (fun g hg => (hl g hg).1)⟩
          case measure => simp [intOf]; omega
        · have hall := pref_all (ls := ls) (k := k) (by omega)
          have HA := Lib.hid hall
          clear hall
          go_wp2
          go_ret
          exact ⟨_, rfl, by rw [← HA.out]; exact hv, hb⟩
theorem concat_L (g c : Nat) (ls : List (Option Addr × Nat × List (Int × Int))) (L : List (Int × Int)) (hL : Hid (L = ls.flatMap (·.2.2))) (w : World) (hg : g < w.heap.size) (hx : RdL w w.heap.size g ls) (hlen : ls.length ≤ 1000) (htot : L.length ≤ 1099511627776) :
    Calls Try.prog 47 #[.slice (some ⟨g, 0, none⟩) ls.length c] w fun e w' => ∃ v, e = .returned v ∧ OwnI w' w.heap.size v L ∧ Below w.heap.size w w' := by
  obtain rfl := hL.out
  exact concat_any g c ls w hg hx hlen htot
end Go.Proofs.Ytekjhdpadddkpaa
