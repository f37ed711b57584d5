/- checkLists, and the reference's Lists. -/
import Derived.Test.YtekjhdpadddkpaaSpanE
namespace Go.Proofs.Ytekjhdpadddkpaa
open Go.RowKit

def longB (p : Option Addr × Nat × List (Int × Int)) : Bool := decide (10000 < p.2.2.length)
def errLists (ls : List (Option Addr × Nat × List (Int × Int))) : Int := if ls.any longB then 7 else errAll (ls.flatMap (·.2.2))

theorem flat_le (ls : List (Option Addr × Nat × List (Int × Int))) (h : ∀ (i : Nat) (p : Option Addr × Nat × List (Int × Int)), ls[i]? = some p → longB p = false) : (ls.flatMap (·.2.2)).length ≤ ls.length * 10000 := by
  induction ls with
  | nil => simp
  | cons p ls ih =>
    have h0 := h 0 p rfl
    have ih := ih fun i q hq => h (i + 1) q (by simpa using hq)
    simp [longB] at h0
    simp only [List.flatMap_cons, List.length_append, List.length_cons]
    omega

def NoLong (ls : List (Option Addr × Nat × List (Int × Int))) (k : Nat) : Prop := ∀ i p, i < k → ls[i]? = some p → longB p = false

set_option maxHeartbeats 800000 in
theorem checkLists_any (g c : Nat) (ls : List (Option Addr × Nat × List (Int × Int))) (w : World) (hg : g < w.heap.size) (hx : RdL w w.heap.size g ls) (hlen : ls.length ≤ 1000) :
    Calls Try.prog 45 #[.slice (some ⟨g, 0, none⟩) ls.length c] w fun e w' => e = .returned (.int .i64 (errLists ls)) ∧ Below w.heap.size w w' := by
  go_enter Try.func45, Try.ntmps45
  go_wp2
  go_loop [7] (fun i => ∃ k : Nat, k ≤ ls.length ∧ i = .int .i64 k ∧ NoLong ls k) (fun i => ls.length - (intOf i).toNat)
  case atStart => exact ⟨0, Nat.zero_le _, rfl, fun i p h => absurd h (by omega)⟩
  case round =>
    obtain ⟨k, hk, rfl, hno⟩ := hrel
    by_cases hlt : k < ls.length
    · have hp := List.getElem?_eq_getElem hlt
      generalize ls[k] = p at hp
      obtain ⟨h1, h2⟩ := hx k p hp
      have HP := Lib.hid hp
      clear hp h2
      by_cases hlong : 10000 < p.2.2.length
      · have hl' : (10000 : Int) < (p.2.2.length : Int) := by omega
        go_wp2
        go_ret
        refine ⟨ret_int ?_, Below.refl _ _⟩
        have : ls.any longB = true := List.any_eq_true.2 ⟨p, List.mem_of_getElem? HP.out, by simp [longB]; omega⟩
        simp [errLists, this]
      · have hl' : ¬ (10000 : Int) < (p.2.2.length : Int) := by omega
        go_wp2
        go_round
        case rel =>
          refine ⟨k + 1, by omega, by go_num, fun i q hi hq => ?_⟩
          by_cases e : i = k
          · subst e; rw [HP.out] at hq; cases hq; simp [longB]; omega
          · exact hno i q (by omega) hq
        case measure => simp [intOf]; omega
    · have hno' : ∀ (i : Nat) (p : Option Addr × Nat × List (Int × Int)), ls[i]? = some p → longB p = false := fun i p hp => hno i p (by have := (List.getElem?_eq_some_iff.1 hp).1; omega) hp
      have hfl := flat_le ls hno'
      have HE : Hid (errLists ls = errAll (ls.flatMap (·.2.2))) := Lib.hid (by
        have : ls.any longB = false := by
          rw [List.any_eq_false]
          intro p hp
          obtain ⟨i, hi, rfl⟩ := List.getElem_of_mem hp
          simp [hno' i _ (List.getElem?_eq_getElem hi)]
        simp [errLists, this])
      clear hno'
      obtain ⟨L, hL⟩ : ∃ L, L = ls.flatMap (·.2.2) := ⟨_, rfl⟩
      rw [← hL] at hfl
      have HE : Hid (errLists ls = errAll L) := Lib.hid (hL ▸ HE.out)
      have HL := Lib.hid hL
      clear hL hno
      go_wp2_with fail
      refine (concat_L g c ls L HL _ hg hx hlen (by omega)).mono ?_
      rintro e w1 ⟨v, rfl, hv, hb1⟩
      obtain ⟨A, c', rfl, hr⟩ := hv.rd
      go_wp2_with fail
      refine (checkAll_any A L.length c' L _ hr (Lib.hid rfl) (by simp only [maxLen]; omega)).mono ?_
      rintro e w2 ⟨rfl, hb2⟩
      go_wp2
      go_ret
      exact ⟨ret_int HE.out.symm, bthen hb1 hb2⟩

def err2 (xs ys : List (Int × Int)) : Int := if 10000 < xs.length ∨ 10000 < ys.length then 7 else errAll (xs ++ ys)
set_option maxHeartbeats 800000 in
theorem rLists_any (A : Option Addr) (n c : Nat) (xs : List (Int × Int)) (A' : Option Addr) (n' c' : Nat) (ys : List (Int × Int)) (w : World) (hx : RdI w w.heap.size A xs) (hn : Hid (n = xs.length)) (hy : RdI w w.heap.size A' ys) (hn' : Hid (n' = ys.length)) :
    Calls Try.prog 29 #[.slice A n c, .slice A' n' c'] w fun e w' => e = .returned (.int .i64 (err2 xs ys)) ∧ Below w.heap.size w w' := by
  obtain rfl := hn.out
  obtain rfl := hn'.out
  clear hn hn'
  obtain ⟨i0, hi0, hz0, hz1, hz2⟩ := info_parts Try.infoIv
  by_cases h1 : 10000 < xs.length
  · have h1' : (10000 : Int) < (xs.length : Int) := by omega
    have HE : Hid (err2 xs ys = 7) := Lib.hid (by simp [err2, h1])
    go_enter Try.func29, Try.ntmps29
    go_wp2
    go_ret
    exact ⟨ret_int HE.out.symm, Below.refl _ _⟩
  · have h1' : ¬ (10000 : Int) < (xs.length : Int) := by omega
    by_cases h2 : 10000 < ys.length
    · have h2' : (10000 : Int) < (ys.length : Int) := by omega
      have HE : Hid (err2 xs ys = 7) := Lib.hid (by simp [err2, h2])
      go_enter Try.func29, Try.ntmps29
      go_wp2
      go_ret
      exact ⟨ret_int HE.out.symm, Below.refl _ _⟩
    · have h2' : ¬ (10000 : Int) < (ys.length : Int) := by omega
      have HE : Hid (err2 xs ys = errAll (xs ++ ys)) := Lib.hid (by simp [err2]; omega)
      have ha : Below w.heap.size w (w.alloc (.cells #[] 23)) := (Below.refl _ _).alloc (Nat.le_refl _) _
      have q1 : (w.alloc (.cells #[] 23)).ownsRow w.heap.size 23 2 (.slice (some ⟨w.heap.size, 0, none⟩) 0 0) 0 [] := World.ownsRow_made w #[] 0 (Nat.le_refl _) (Nat.zero_le _) (by simp)
      have qm : 0 + xs.length ≤ maxLen := by simp only [maxLen]; omega
      have qb : (0 + xs.length) * 16 ≤ 140737488355328 := by omega
      have qz : w.heap.size ≤ (w.alloc (.cells #[] 23)).heap.size := by simp
      have qm2 : xs.length + ys.length ≤ maxLen := by simp only [maxLen]; omega
      have qb2 : (xs.length + ys.length) * 16 ≤ 140737488355328 := by omega
      go_enter Try.func29, Try.ntmps29
      go_wp2_with (at_builtin; refine wpList_append_rd _ rfl (.tmp 13) (.tmp 14) _ rfl w.heap.size 23 i0 _ 2 16 Try.underlying33 hi0 hz0 hz1 hz2 rfl (by omega) (.slice (some ⟨w.heap.size, 0, none⟩) 0 0) 0 [] rfl q1 w.heap.size A xs.length c (cellsI xs) rfl (length_cellsI xs) (hx.cells.below ha) cellsI_one qm qb qz ?_)
      intro v1 w1 hown hg hat
      have hown : OwnI w1 w.heap.size v1 xs := by simpa [OwnI] using hown
      have hb1 : Below w.heap.size w w1 := ha.grown hg (by simp) (by intro k hk; simp [Value.ownBlock] at hk; omega)
      clear q1 ha qz hat hg
      go_wp2_with (at_builtin; refine wpList_append_rd _ rfl (.tmp 15) (.tmp 16) _ rfl w.heap.size 23 i0 _ 2 16 Try.underlying33 hi0 hz0 hz1 hz2 rfl (by omega) v1 xs.length (cellsI xs) rfl hown w.heap.size A' ys.length c' (cellsI ys) rfl (length_cellsI ys) (hy.cells.below hb1) cellsI_one qm2 qb2 hb1.size ?_)
      intro v2 w2 hown2 hg2 hat2
      have hlt := hown.lt
      have hb2 : Below w.heap.size w w2 := hb1.grown hg2 hb1.size (fun k hk => (hlt k hk).1)
      have hv2 : OwnI w2 w.heap.size v2 (xs ++ ys) := by simpa [OwnI, cellsI_append] using hown2
      clear hown hown2 hg2 hat2 hlt
      obtain ⟨A2, c2, rfl, hr2⟩ := hv2.rd
      obtain ⟨L, hL⟩ : ∃ L, L = xs ++ ys := ⟨_, rfl⟩
      have hlen : L.length = xs.length + ys.length := by rw [hL, List.length_append]
      rw [← hL] at hr2 HE
      have HL : Hid (xs.length + ys.length = L.length) := Lib.hid hlen.symm
      rw [List.length_append]
      clear hlen hL
      go_wp2_with fail
      refine (rAll_any A2 _ c2 L _ hr2 HL (by rw [← HL.out]; simp only [maxLen]; omega)).mono ?_
      rintro e w3 ⟨rfl, hb3⟩
      go_wp2
      go_ret
      exact ⟨ret_int HE.out.symm, bthen hb2 hb3⟩
end Go.Proofs.Ytekjhdpadddkpaa
