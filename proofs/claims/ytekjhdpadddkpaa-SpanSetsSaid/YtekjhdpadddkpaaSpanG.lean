/- The sort of intervals by their lower ends. -/
import Derived.Test.YtekjhdpadddkpaaSpanF
import Derived.Test.YtekjhdpadddkpaaSortLay
namespace Go.Proofs.Ytekjhdpadddkpaa
open Go.Shelf Go.RowKit Go.Lib Go.Sort

def encI (x : Int × Int) : List Value := [.int .i64 x.1, .int .i64 x.2]
def cmpI (x y : Int × Int) : Int := Lib.compareInt x.1 y.1
theorem ltI (x y : Int × Int) : ltOf cmpI x y = decide (x.1 < y.1) := by
  unfold ltOf cmpI Lib.compareInt
  by_cases h1 : x.1 < y.1
  · simp [h1]
  · by_cases h2 : y.1 < x.1 <;> simp [h1, h2]
theorem swoI : SWO (ltOf cmpI) where
  irrefl x := by rw [ltI]; simp
  trans x y z h1 h2 := by rw [ltI] at *; simp at *; omega
  ntrans x y z h1 h2 := by rw [ltI] at *; simp at *; omega

set_option maxHeartbeats 1000000 in
theorem closure_any (x y : Int × Int) (W : World) : Calls Try.prog 55 #[.agg #[.int .i64 x.1, .int .i64 x.2], .agg #[.int .i64 y.1, .int .i64 y.2]] W fun e w' => e = .returned (.int .i64 (cmpI x y)) ∧ ∃ q os', w' = grow (W.drewN q) os' := by
  unfold cmpI
  have hcon := fun W' => AnyG.cmp_Compare_int Try.cmpIntL x.1 y.1 W'
  change ∀ W', Calls Try.prog 56 _ _ _ at hcon
  generalize Lib.compareInt x.1 y.1 = r at hcon ⊢
  go_enter Try.func55, Try.ntmps55
  go_wp2_with (go_at_call 56; refine (hcon _).mono ?_; rintro e w' ⟨rfl, rfl⟩)
  go_ret
  exact ⟨rfl, 0, _, by rw [alloc_eq_grow, alloc_eq_grow, grow_grow]; rfl⟩

theorem flatI (xs : List (Int × Int)) : flatK encI 2 xs.toArray = (cellsI xs).toArray := by
  refine ext_get! (by simp) fun t ht => ?_
  have ht' : t < xs.length * 2 := by simpa using ht
  rw [get_flatK _ _ _ t (by simpa using ht')]
  have hk : t / 2 < xs.length := by omega
  have hx := List.getElem?_eq_getElem hk
  obtain ⟨a, b⟩ := cellsI_get hx
  have e0 : xs.toArray[t / 2]! = xs[t / 2] := by
    rw [getElem!_pos _ _ (by simpa using hk)]; simp
  rw [e0]
  have hl : t < (cellsI xs).length := by simpa using ht'
  have e1 : (cellsI xs).toArray[t]! = (cellsI xs)[t] := by rw [getElem!_pos _ _ (by simpa using ht')]; simp
  rw [e1]
  rcases Nat.mod_two_eq_zero_or_one t with h | h
  · rw [h]
    have e : t / 2 * 2 = t := by omega
    rw [e, List.getElem?_eq_getElem hl] at a
    simpa [encI] using (Option.some.inj a).symm
  · rw [h]
    have e : t / 2 * 2 + 1 = t := by omega
    rw [e, List.getElem?_eq_getElem hl] at b
    simpa [encI] using (Option.some.inj b).symm

theorem OwnI.holds {w : World} {base g n c : Nat} {xs : List (Int × Int)} (h : OwnI w base (.slice (some ⟨g, 0, none⟩) n c) xs) : HoldsK encI 2 w g 0 xs.toArray ∧ g < w.heap.size ∧ base ≤ g ∧ n = xs.length := by
  have hl := h.lt g rfl
  refine ⟨?_, hl.2, hl.1, ?_⟩
  · unfold HoldsK
    rw [flatI]
    intro j hj
    have hj' : j < (cellsI xs).length := by simpa using hj
    have hc := h.cells (g := g) rfl j _ (List.getElem?_eq_getElem hj')
    rw [Addr.add_lit] at hc
    refine ⟨?_, ?_⟩
    · rw [hc, getElem!_pos _ _ (by simpa using hj)]; simp
    · rcases h.2 with ⟨hv, _⟩ | ⟨g', cap, cur, hv, _, hh, _⟩
      · cases hv
      · cases hv
        simp [World.frozen?, hh]
  · rcases h.2 with ⟨hv, _⟩ | ⟨g', cap, cur, hv, _⟩
    · cases hv
    · cases hv; rfl

theorem HoldsK.rdI {w : World} {g : Nat} {xs : List (Int × Int)} (h : HoldsK encI 2 w g 0 xs.toArray) (hg : g < w.heap.size) : RdI w w.heap.size (some ⟨g, 0, none⟩) xs := by
  unfold HoldsK at h
  rw [flatI] at h
  refine RdC.ivs (.inr ⟨g, 0, rfl, hg, fun j u hu => ?_⟩)
  have hj := (List.getElem?_eq_some_iff.1 hu).1
  have := (h j (by simpa using hj)).1
  rw [this, getElem!_pos _ _ (by simpa using hj)]
  rw [← hu, List.getElem?_eq_getElem hj]
  simp

theorem grown_sortK {w : World} {g n : Nat} {os : Array Obj} (d : Array (Int × Int)) : w.grownBy (sortWorldK encI 2 w g 0 n d os) (some g) := by
  unfold sortWorldK putRowK
  refine ⟨rfl, rfl, rfl, by simp, fun k hk hne => ?_⟩
  rw [heap_grow_old _ _ (by simpa using hk)]
  have : g ≠ k := fun e => hne (by rw [e])
  simp [putRow, mapBlock, Sort.ahead, Array.getElem?_modify, this]

/-- Increasing lower ends. -/
def SortedLo (ys : List (Int × Int)) : Prop := ∀ (i j : Nat) (x y : Int × Int), i < j → ys[i]? = some x → ys[j]? = some y → x.1 ≤ y.1

set_option maxHeartbeats 1000000 in
theorem sort_any (A : Option Addr) (n c : Nat) (xs : List (Int × Int)) (base : Nat) (w : World) (hown : OwnI w base (.slice A n c) xs) (hlen : xs.length ≤ 1099511627776) :
    Calls Try.prog 54 #[.slice A n c, .func (.func 55) #[] #[]] w fun e w' => e = .returned (.tuple #[]) ∧ ∃ ys, ys.Perm xs ∧ SortedLo ys ∧ ys.length = n ∧ RdI w' w'.heap.size A ys ∧ Below base w w' := by
  by_cases h0 : xs = []
  · subst h0
    have hn : n = 0 := by
      rcases hown.2 with ⟨hv, _⟩ | ⟨g', cap, cur, hv, _⟩ <;> (cases hv; rfl)
    subst hn
    have h := AnyF.slices_SortFunc_none Try.sortIvL A c (.func (.func 55) #[] #[]) w
    change Calls Try.prog 54 _ _ _ at h
    exact h.mono fun e w' ⟨he, hw⟩ => ⟨he, [], .nil, fun i j x y _ h => by simp at h, rfl, RdI.nil _ _ _, hw ▸ Below.refl _ _⟩
  · obtain ⟨g, hA⟩ : ∃ g, A = some ⟨g, 0, none⟩ := by
      rcases hown.2 with ⟨hv, hn⟩ | ⟨g', cap, cur, hv, _⟩
      · exact absurd (List.eq_nil_of_length_eq_zero hn) h0
      · cases hv; exact ⟨_, rfl⟩
    subst hA
    obtain ⟨hH, hg, hbase, rfl⟩ := hown.holds
    have eg : ∀ args w, (callFunc 55 args).run Try.prog w = .ok (.enter 55 args) w := enters_of Try.func55 (by kernel_rfl) rfl
    have hcmp : CmpLays Try.prog 55 #[] encI 2 cmpI g 0 xs.toArray.size w := fun _ _ _ _ x y => closure_any x y _
    have h := AnyQ.slices_SortFunc Try.sortIvL 2 Try.isAgg23 Try.sizeOf23 encI (fun _ => rfl) (fun x v hv => by simp [encI] at hv; rcases hv with rfl | rfl <;> rfl) cmpI swoI 55 #[] g 0 c xs.toArray w eg hcmp hH hg (by simp; omega)
    change Calls Try.prog 54 _ _ _ at h
    refine h.mono fun e w' ⟨he, d', n, os, hp, hs, hw⟩ => ⟨he, d'.toList, ?_, ?_, ?_, ?_, ?_⟩
    · have := hp.2.2
      have e1 : d'.extract 0 xs.toArray.size = d' := by rw [← hp.1]; simp
      rw [e1] at this
      simpa using this
    · intro i j x y hij hx hy
      have hj : j < d'.size := by simpa using (List.getElem?_eq_some_iff.1 hy).1
      have hi : i < d'.size := by omega
      have := hs i j (Nat.zero_le _) hij (by rw [← hp.1]; exact hj)
      rw [ltI, getElem!_pos d' j hj, getElem!_pos d' i hi] at this
      rw [Array.getElem?_toList, Array.getElem?_eq_getElem hi] at hx
      rw [Array.getElem?_toList, Array.getElem?_eq_getElem hj] at hy
      cases hx; cases hy
      simp at this
      exact this
    · have := hp.1; simpa using this
    · subst hw
      have hk := holdsK_sortWorldK_c encI 2 w g 0 xs.toArray d' n os hH hg hp.1
      have hsz := size_sortWorldK_c encI 2 w g 0 n d' os
      exact HoldsK.rdI (xs := d'.toList) (by simpa using hk) (by omega)
    · subst hw
      exact (Below.refl base w).grown (grown_sortK d') (by have := hg; omega) (fun k hk => by cases hk; exact hbase)
end Go.Proofs.Ytekjhdpadddkpaa
