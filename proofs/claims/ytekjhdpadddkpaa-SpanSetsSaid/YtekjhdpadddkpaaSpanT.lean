/- The walks of gaps and common. -/
import Derived.Test.YtekjhdpadddkpaaSpanS
import Derived.Test.YtekjhdpadddkpaaSpanL
import Derived.Deep.DeepCutAuto
import Derived.Deep.RegionWith
namespace Go.Proofs.Ytekjhdpadddkpaa
open Go.RowKit

theorem drop_consI {xs : List (Int × Int)} {k : Nat} {x : Int × Int} (h : xs[k]? = some x) : xs.drop k = x :: xs.drop (k + 1) := by
  obtain ⟨hk, rfl⟩ := List.getElem?_eq_some_iff.1 h
  exact List.drop_eq_getElem_cons hk

/-- The function hands back a list of its own, of which Q holds; below it nothing has turned. -/
def RetOwn (w : World) (Q : List (Int × Int) → Prop) (e : Ending) (w' : World) : Prop := ∃ v zs, e = .returned v ∧ OwnI w' w.heap.size v zs ∧ Q zs ∧ Below w.heap.size w w'

set_option maxHeartbeats 1600000 in
theorem gaps_any (A : Option Addr) (n c : Nat) (zs : List (Int × Int)) (w : World) (hx : RdI w w.heap.size A zs) (hn : Hid (n = zs.length)) (hnf : NF zs) (hv : ValidI zs) (hlen : zs.length ≤ 1099511627776) :
    Calls Try.prog 49 #[.slice A n c] w (RetOwn w fun gs => GapsOf zs gs ∧ gs.length ≤ zs.length + 1) := by
  obtain rfl := hn.out
  clear hn
  obtain ⟨i0, hi0, hz0, hz1, hz2⟩ := info_parts Try.infoIv
  go_enter Try.func49, Try.ntmps49
  go_wp2
  go_loopw [3, 4, 9] (fun v s i wr => ∃ (k : Nat) (out : List (Int × Int)) (next : Int), k ≤ zs.length ∧ i = .int .i64 k ∧ s = .int .i64 next ∧ OwnI wr w.heap.size v out ∧ GapInv (zs.take k) (zs.drop k) out next ∧ out.length ≤ k ∧ Below w.heap.size w wr) (fun _ _ i _ => zs.length - (intOf i).toNat)
  case atStart => exact ⟨0, [], -1000000000000, Nat.zero_le _, rfl, rfl, World.ownsRow_nil _ _ _ _, GapInv.start hv, Nat.le_refl _, Below.refl _ _⟩
  case round =>
    obtain ⟨k, out, next, hk, rfl, rfl, hvo, hg, hol, hb⟩ := hrel
    by_cases hlt : k < zs.length
    · obtain ⟨b, off, x, rfl, hB, hx', h1, h2⟩ := (hx.below hb) k hlt
      have hxb := hv x (List.mem_of_getElem? hx')
      rw [drop_consI hx'] at hg
      have hst := hg.step (by rw [← drop_consI hx']; exact ⟨fun y hy => hnf.valid y (List.mem_of_mem_drop hy), hnf.apart.sublist (List.drop_sublist k zs)⟩) hxb
      rw [← take_snocI hx'] at hst
      have hlo := hg.lo
      have hhi := hg.hi
      clear hg hx'
      by_cases hc : next < x.1
      · rw [if_pos hc] at hst
        go_wp2_with (at_builtin; refine wpList_append_rd _ rfl (.tmp 17) (.tmp 23) _ rfl w.heap.size 23 i0 _ 2 16 Try.underlying33 hi0 hz0 hz1 hz2 rfl (by omega) _ out.length (cellsI out) rfl ((World.ownsRow.alloc hvo _).alloc _) (wr.heap.size + 2) (some ⟨wr.heap.size + 1, 0, none⟩) 1 1 (cellsI [(next, x.1 - 1)]) rfl rfl ?c3 cellsI_one (by simp only [maxLen]; omega) (by omega) ?c7 ?_)
        case c3 => show RdC _ _ _ [.int .i64 next, .int .i64 (x.1 - 1)]; exact RdC.two (by go_simp) (by go_simp) (by omega)
        case c7 => have := hb.size; simp; omega
        intro v1 wA hown hgr hat
        have hlow := hvo.lt
        have hbA : Below w.heap.size w wA := (bnew (bnew hb _) _).grown hgr (bnew (bnew hb _) _).size (fun g h => (hlow g h).1)
        have q1 : wA.cell? ⟨wr.heap.size, 1, none⟩ = some (.int .i64 x.2) := hgr.cell (by go_simp) (fun e => by have := (hlow _ e.symm).2; simp at this)
        go_wp2
        go_roundw
        case rel => exact ⟨k + 1, out ++ [(next, x.1 - 1)], x.2 + 1, by omega, by go_num, by go_num, by unfold OwnI; rw [cellsI_append, List.length_append]; exact hown, hst, by simp; omega, hbA⟩
        case measure => simp [intOf]; omega
      · rw [if_neg hc] at hst
        go_wp2
        go_roundw
        case rel => exact ⟨k + 1, out, x.2 + 1, by omega, by go_num, by go_num, World.ownsRow.alloc hvo _, hst, by omega, bnew hb _⟩
        case measure => simp [intOf]; omega
    · have hk' : k = zs.length := by omega
      subst hk'
      rw [List.take_length, List.drop_length] at hg
      have hst := hg.stop
      have hlo := hg.lo
      have hhi := hg.hi
      clear hg
      by_cases hc : next ≤ 1000000000000
      · rw [if_pos hc] at hst
        go_wp2_with (at_builtin; refine wpList_append_rd _ rfl (.tmp 31) (.tmp 34) _ rfl w.heap.size 23 i0 _ 2 16 Try.underlying33 hi0 hz0 hz1 hz2 rfl (by omega) _ out.length (cellsI out) rfl (World.ownsRow.alloc hvo _) (wr.heap.size + 1) (some ⟨wr.heap.size, 0, none⟩) 1 1 (cellsI [(next, 1000000000000)]) rfl rfl ?c3 cellsI_one (by simp only [maxLen]; omega) (by omega) ?c7 ?_)
        case c3 => show RdC _ _ _ [.int .i64 next, .int .i64 1000000000000]; exact RdC.two (by go_simp) (by go_simp) (by omega)
        case c7 => have := hb.size; simp; omega
        intro v1 wA hown hgr hat
        have hlow := hvo.lt
        have hbA : Below w.heap.size w wA := (bnew hb _).grown hgr (bnew hb _).size (fun g h => (hlow g h).1)
        go_wp2
        go_ret
        exact ⟨_, _, rfl, by unfold OwnI; rw [cellsI_append, List.length_append]; exact hown, ⟨hst, by simp; omega⟩, hbA⟩
      · rw [if_neg hc] at hst
        go_wp2
        go_ret
        exact ⟨_, _, rfl, hvo, ⟨hst, by omega⟩, hb⟩

def sliceLen : Value → Nat | .slice _ n _ => n | _ => 0
theorem RdI.tail {w : World} {B b off : Nat} {x : Int × Int} {xs : List (Int × Int)} {c : Nat} (h : RdI w B (some ⟨b, off, none⟩) (x :: xs)) (hc : xs.length + 1 ≤ c) : RdI w B (if c = 1 then some ⟨b, off, none⟩ else some ⟨b, off + 2, none⟩) xs := by
  intro k hk
  obtain ⟨b', off', y, hA, hB, hy, h1, h2⟩ := h (k + 1) (by simp; omega)
  cases hA
  have hc1 : c ≠ 1 := by omega
  refine ⟨b, off + 2, y, by rw [if_neg hc1], hB, by simpa using hy, ?_, ?_⟩
  · rw [show off + 2 + k * 2 = off + (k + 1) * 2 by omega]; exact h1
  · rw [show off + 2 + k * 2 + 1 = off + (k + 1) * 2 + 1 by omega]; exact h2
theorem RdI.head {w : World} {B : Nat} {A : Option Addr} {x : Int × Int} {xs : List (Int × Int)} (h : RdI w B A (x :: xs)) : ∃ b off, A = some ⟨b, off, none⟩ ∧ b < B ∧ w.cell? ⟨b, off, none⟩ = some (.int .i64 x.1) ∧ w.cell? ⟨b, off + 1, none⟩ = some (.int .i64 x.2) := by
  obtain ⟨b, off, y, hA, hB, hy, h1, h2⟩ := h 0 (by simp)
  simp at hy
  subst hy
  exact ⟨b, off, hA, hB, by simpa using h1, by simpa using h2⟩

set_option maxHeartbeats 3200000 in
theorem common_any (A : Option Addr) (n c : Nat) (xs : List (Int × Int)) (A' : Option Addr) (n' c' : Nat) (ys : List (Int × Int)) (w : World) (hx : RdI w w.heap.size A xs) (hn : Hid (n = xs.length)) (hc : n ≤ c) (hy : RdI w w.heap.size A' ys) (hn' : Hid (n' = ys.length)) (hc' : n' ≤ c')
    (h1 : NF xs) (h2 : NF ys) (hlen : xs.length + ys.length ≤ 1099511627776) (hcm : c ≤ maxLen) (hcm' : c' ≤ maxLen) :
    Calls Try.prog 48 #[.slice A n c, .slice A' n' c'] w (RetOwn w fun zs => CutOf xs ys zs ∧ zs.length ≤ xs.length + ys.length) := by
  obtain rfl := hn.out
  obtain rfl := hn'.out
  clear hn hn'
  unfold maxLen at hcm hcm'
  obtain ⟨i0, hi0, hz0, hz1, hz2⟩ := info_parts Try.infoIv
  go_enter Try.func48, Try.ntmps48
  go_wp2
  go_loopw [0, 1, 5] (fun sa sb v wr => ∃ (X Y out : List (Int × Int)) (P1 : Option Addr) (c1 : Nat) (P2 : Option Addr) (c2 : Nat), sa = .slice P1 X.length c1 ∧ sb = .slice P2 Y.length c2 ∧ X.length ≤ c1 ∧ Y.length ≤ c2 ∧ c1 ≤ 9223372036854775807 ∧ c2 ≤ 9223372036854775807 ∧ RdI w w.heap.size P1 X ∧ RdI w w.heap.size P2 Y ∧
      OwnI wr w.heap.size v out ∧ CutInv xs ys X Y out ∧ out.length + X.length + Y.length ≤ xs.length + ys.length ∧ Below w.heap.size w wr) (fun sa sb _ _ => sliceLen sa + sliceLen sb)
  case atStart => exact ⟨xs, ys, [], A, c, A', c', rfl, rfl, hc, hc', by omega, by omega, hx, hy, World.ownsRow_nil _ _ _ _, CutInv.start h1 h2, by simp, Below.refl _ _⟩
  case round =>
    obtain ⟨X, Y, out, P1, c1, P2, c2, rfl, rfl, hX, hY, hc1, hc2, hrX, hrY, hvo, hg, hol, hb⟩ := hrel
    rcases X with _ | ⟨a, X⟩
    · have hst := hg.stop (.inl rfl)
      go_wp2
      go_ret
      exact ⟨_, _, rfl, hvo, ⟨hst, by simp at hol; omega⟩, hb⟩
    · rcases Y with _ | ⟨b, Y⟩
      · have hst := hg.stop (.inr rfl)
        go_wp2
        go_ret
        exact ⟨_, _, rfl, hvo, ⟨hst, by simp at hol; omega⟩, hb⟩
      · have hst := hg.step
        obtain ⟨ba, oa, rfl, hBa, a1, a2⟩ := (hrX.below hb).head
        obtain ⟨bb, ob, rfl, hBb, b1, b2⟩ := (hrY.below hb).head
        have hcon := fun w => overlap_any a b w
        generalize ovl a b = o at hcon hst
        have HC := Lib.hid hcon
        clear hcon hg
        rw [List.length_cons, List.length_cons] at *
        have hXp : (0 : Int) < (X.length : Int) + 1 := by omega
        have hYp : (0 : Int) < (Y.length : Int) + 1 := by omega
        have hba' : ba < wr.heap.size := lt_of_cell a1
        have hbb' : bb < wr.heap.size := lt_of_cell b1
        go_upto_region 3 with fail
        go_cut [6] (fun p wx => ∃ g : Nat, p = .pointer (some ⟨g, 0, none⟩) ∧ wx.cell? ⟨g, 0, none⟩ = some (.int .i64 o.1) ∧ wx.cell? ⟨g, 1, none⟩ = some (.int .i64 o.2) ∧ wr.heap.size ≤ g ∧ Below wr.heap.size wr wx)
        case first =>
          go_region_with ((go_at_call 42; refine (HC.out _).mono ?_; rintro e w' ⟨rfl, hbl⟩; obtain ⟨hkc, hkf⟩ := bcells hbl; have hkz := hbl.size; simp only [World.drew, World.alloc, Array.size_push] at hkz))
          all_goals
            go_wp2_with fail
            go_meet
            refine ⟨_, rfl, ?_, ?_, ?_, ?_⟩
            · go_simp
            · go_simp
            · first | exact Nat.le_refl _ | exact hbl.size
            · first
                | exact bnew (((Below.refl _ wr).drew).trans hbl) _
                | exact ((((bnew (Below.refl _ wr) _).drew).trans (hbl.mono (size_le_alloc wr _))).setCell (Nat.le_refl _) _).setCell (Nat.le_refl _) _
        case rest =>
          obtain ⟨g, rfl, g1, g2, hg0, hbc⟩ := hcut
          have a1' := keepc a1 hbc
          have a2' := keepc a2 hbc
          have b1' := keepc b1 hbc
          have b2' := keepc b2 hbc
          have hvc : OwnI wc w.heap.size u5 out := own_below hvo hbc
          have hbw : Below w.heap.size w wc := bthen hb hbc
          have hlow := hvc.lt
          clear hvo hb a1 a2 b1 b2
          by_cases ho : o.1 ≤ o.2
          · rw [if_pos ho] at hst
            by_cases hab : a.2 < b.2
            · rw [if_pos hab, if_pos hab] at hst
              go_wp2_with (at_builtin; refine wpList_append_rd _ rfl (.tmp 27) (.tmp 29) _ rfl w.heap.size 23 i0 _ 2 16 Try.underlying33 hi0 hz0 hz1 hz2 rfl (by omega) _ out.length (cellsI out) rfl (World.ownsRow.alloc hvc _) (wc.heap.size + 1) (some ⟨wc.heap.size, 0, none⟩) 1 1 (cellsI [o]) rfl rfl ?c3 cellsI_one (by simp only [maxLen]; omega) (by omega) ?c7 ?_)
              case c3 => show RdC _ _ _ [.int .i64 o.1, .int .i64 o.2]; exact RdC.two (by go_simp) (by go_simp) (by omega)
              case c7 => have := hbw.size; simp; omega
              intro v1 wA hown hgr hat
              have hbA : Below w.heap.size w wA := (bnew hbw _).grown hgr (bnew hbw _).size (fun g h => (hlow g h).1)
              have a2A : wA.cell? ⟨ba, oa + 1, none⟩ = some (.int .i64 a.2) := hgr.cell (keepa a2' _) (fun e => by have := (hlow _ e.symm).1; simp at this; omega)
              have b2A : wA.cell? ⟨bb, ob + 1, none⟩ = some (.int .i64 b.2) := hgr.cell (keepa b2' _) (fun e => by have := (hlow _ e.symm).1; simp at this; omega)
              go_wp2
              go_quiet (fail)
              go_wp2
              go_roundw
              case rel => exact ⟨X, b :: Y, out ++ [o], _, _, _, _, rfl, rfl, by omega, by simp; omega, by omega, hc2, hrX.tail hX, hrY, by unfold OwnI; rw [cellsI_append, List.length_append]; exact hown, hst, by simp; omega, below_drewN hbA _⟩
              case measure => simp [sliceLen]
            · rw [if_neg hab, if_neg hab] at hst
              go_wp2_with (at_builtin; refine wpList_append_rd _ rfl (.tmp 27) (.tmp 29) _ rfl w.heap.size 23 i0 _ 2 16 Try.underlying33 hi0 hz0 hz1 hz2 rfl (by omega) _ out.length (cellsI out) rfl (World.ownsRow.alloc hvc _) (wc.heap.size + 1) (some ⟨wc.heap.size, 0, none⟩) 1 1 (cellsI [o]) rfl rfl ?c3 cellsI_one (by simp only [maxLen]; omega) (by omega) ?c7 ?_)
              case c3 => show RdC _ _ _ [.int .i64 o.1, .int .i64 o.2]; exact RdC.two (by go_simp) (by go_simp) (by omega)
              case c7 => have := hbw.size; simp; omega
              intro v1 wA hown hgr hat
              have hbA : Below w.heap.size w wA := (bnew hbw _).grown hgr (bnew hbw _).size (fun g h => (hlow g h).1)
              have a2A : wA.cell? ⟨ba, oa + 1, none⟩ = some (.int .i64 a.2) := hgr.cell (keepa a2' _) (fun e => by have := (hlow _ e.symm).1; simp at this; omega)
              have b2A : wA.cell? ⟨bb, ob + 1, none⟩ = some (.int .i64 b.2) := hgr.cell (keepa b2' _) (fun e => by have := (hlow _ e.symm).1; simp at this; omega)
              go_wp2
              go_quiet (fail)
              go_wp2
              go_roundw
              case rel => exact ⟨a :: X, Y, out ++ [o], _, _, _, _, rfl, rfl, by simp; omega, by omega, hc1, by omega, hrX, hrY.tail hY, by unfold OwnI; rw [cellsI_append, List.length_append]; exact hown, hst, by simp; omega, below_drewN hbA _⟩
              case measure => simp [sliceLen]
          · rw [if_neg ho] at hst
            by_cases hab : a.2 < b.2
            · rw [if_pos hab, if_pos hab] at hst
              go_wp2
              go_quiet (fail)
              go_wp2
              go_roundw
              case rel => exact ⟨X, b :: Y, out, _, _, _, _, rfl, rfl, by omega, by simp; omega, by omega, hc2, hrX.tail hX, hrY, hvc, hst, by simp; omega, below_drewN hbw _⟩
              case measure => simp [sliceLen]
            · rw [if_neg hab, if_neg hab] at hst
              go_wp2
              go_quiet (fail)
              go_wp2
              go_roundw
              case rel => exact ⟨a :: X, Y, out, _, _, _, _, rfl, rfl, by simp; omega, by omega, hc1, by omega, hrX, hrY.tail hY, hvc, hst, by simp; omega, below_drewN hbw _⟩
              case measure => simp [sliceLen]
end Go.Proofs.Ytekjhdpadddkpaa
