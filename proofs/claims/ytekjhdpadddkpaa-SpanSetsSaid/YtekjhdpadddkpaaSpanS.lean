/- Gaps and overlaps of normal forms, plain. -/
import Derived.Test.YtekjhdpadddkpaaSpanH
import Derived.Test.YtekjhdpadddkpaaSpanB
namespace Go.Proofs.Ytekjhdpadddkpaa

/-- The gaps so far: out has the numbers of the range below next that done lacks; todo begins at next or behind. -/
structure GapInv (done todo out : List (Int × Int)) (next : Int) : Prop where
  nf : NF out
  ends : ∀ x ∈ out, -1000000000000 ≤ x.1 ∧ x.2 + 2 ≤ next
  mem : ∀ n, InI out n ↔ -1000000000000 ≤ n ∧ n < next ∧ ¬ InI done n
  lo : -1000000000000 ≤ next
  hi : next ≤ 1000000000001
  below : ∀ n, InI done n → n < next
  later : ∀ y ∈ todo, next ≤ y.1

theorem GapInv.start {zs : List (Int × Int)} (hv : ValidI zs) : GapInv [] zs [] (-1000000000000) :=
  ⟨.nil, by simp, fun n => by simp only [InI_nil, false_iff]; omega, by omega, by omega, fun n h => absurd h (InI_nil n), fun y hy => (hv y hy).1⟩

theorem GapInv.step {done todo out : List (Int × Int)} {a : Int × Int} {next : Int} (h : GapInv done (a :: todo) out next) (hnf : NF (a :: todo)) (ha : -1000000000000 ≤ a.1 ∧ a.1 ≤ a.2 ∧ a.2 ≤ 1000000000000) :
    GapInv (done ++ [a]) todo (if next < a.1 then out ++ [(next, a.1 - 1)] else out) (a.2 + 1) := by
  have hna := h.later a (by simp)
  have hm : ∀ n, InI (done ++ [a]) n ↔ InI done n ∨ (a.1 ≤ n ∧ n ≤ a.2) := fun n => by rw [InI_append, InI_single]
  have hlater : ∀ y ∈ todo, a.2 + 1 ≤ y.1 := fun y hy => by
    have := (List.pairwise_cons.1 hnf.apart).1 y hy
    omega
  have hbelow : ∀ n, InI (done ++ [a]) n → n < a.2 + 1 := fun n hn => by
    rcases (hm n).1 hn with h1 | h1
    · have := h.below n h1; omega
    · omega
  by_cases hc : next < a.1
  · rw [if_pos hc]
    refine ⟨⟨?_, List.pairwise_append.2 ⟨h.nf.apart, by simp, fun x hx y hy => ?_⟩⟩, ?_, fun n => ?_, by omega, by omega, hbelow, hlater⟩
    · intro x hx
      rcases List.mem_append.1 hx with h1 | h1
      · exact h.nf.valid x h1
      · simp at h1; subst h1; show next ≤ a.1 - 1; omega
    · simp at hy; subst hy
      exact (h.ends x hx).2
    · intro x hx
      rcases List.mem_append.1 hx with h1 | h1
      · have := h.ends x h1; omega
      · simp at h1; subst h1; show -1000000000000 ≤ next ∧ a.1 - 1 + 2 ≤ a.2 + 1; have := h.lo; omega
    · rw [InI_append, InI_single, h.mem n, hm n]
      show _ ∨ (next ≤ n ∧ n ≤ a.1 - 1) ↔ _
      have hb := h.below n
      have hl := h.lo
      by_cases hd : InI done n
      · have := hb hd
        simp only [hd, not_true, and_false, true_or, false_or, iff_false]
        omega
      · simp only [hd, not_false_iff, and_true, false_or]
        omega
  · rw [if_neg hc]
    refine ⟨h.nf, fun x hx => ?_, fun n => ?_, by omega, by omega, hbelow, hlater⟩
    · have := h.ends x hx; omega
    · rw [h.mem n, hm n]
      have hb := h.below n
      by_cases hd : InI done n
      · simp only [hd, not_true, and_false, true_or]
      · simp only [hd, not_false_iff, and_true, false_or]
        omega

/-- gs has the numbers of the whole range that zs lacks. -/
def GapsOf (zs gs : List (Int × Int)) : Prop := NF gs ∧ ValidI gs ∧ ∀ n, InI gs n ↔ -1000000000000 ≤ n ∧ n ≤ 1000000000000 ∧ ¬ InI zs n
theorem GapInv.stop {zs out : List (Int × Int)} {next : Int} (h : GapInv zs [] out next) : GapsOf zs (if next ≤ 1000000000000 then out ++ [(next, 1000000000000)] else out) := by
  have hlo := h.lo
  have hhi := h.hi
  by_cases hc : next ≤ 1000000000000
  · rw [if_pos hc]
    refine ⟨⟨?_, List.pairwise_append.2 ⟨h.nf.apart, by simp, fun x hx y hy => ?_⟩⟩, ?_, fun n => ?_⟩
    · intro x hx
      rcases List.mem_append.1 hx with h1 | h1
      · exact h.nf.valid x h1
      · simp at h1; subst h1; exact hc
    · simp at hy; subst hy
      exact (h.ends x hx).2
    · intro x hx
      rcases List.mem_append.1 hx with h1 | h1
      · have := h.ends x h1; have := h.nf.valid x h1; omega
      · simp at h1; subst h1; show -1000000000000 ≤ next ∧ next ≤ 1000000000000 ∧ (1000000000000 : Int) ≤ 1000000000000; omega
    · rw [InI_append, InI_single, h.mem n]
      show _ ∨ (next ≤ n ∧ n ≤ 1000000000000) ↔ _
      have hb := h.below n
      by_cases hd : InI zs n
      · have := hb hd
        simp only [hd, not_true, and_false, false_or, iff_false]
        omega
      · simp only [hd, not_false_iff, and_true]
        omega
  · rw [if_neg hc]
    refine ⟨h.nf, fun x hx => ?_, fun n => ?_⟩
    · have := h.ends x hx; have := h.nf.valid x hx; omega
    · rw [h.mem n]
      by_cases hd : InI zs n
      · simp only [hd, not_true, and_false]
      · simp only [hd, not_false_iff, and_true]
        omega

/-- The overlaps so far: X and Y are still to be compared. -/
structure CutInv (xs ys X Y out : List (Int × Int)) : Prop where
  nf : NF out
  nx : NF X
  ny : NF Y
  mem : ∀ n, (InI xs n ∧ InI ys n) ↔ (InI out n ∨ (InI X n ∧ InI Y n))
  sep : ∀ x ∈ out, ∀ n, InI X n → InI Y n → x.2 + 2 ≤ n
theorem CutInv.start {xs ys : List (Int × Int)} (hx : NF xs) (hy : NF ys) : CutInv xs ys xs ys [] :=
  ⟨.nil, hx, hy, fun n => by simp [InI_nil], by simp⟩

theorem InI_ovl (a b : Int × Int) (n : Int) : ((ovl a b).1 ≤ n ∧ n ≤ (ovl a b).2) ↔ (a.1 ≤ n ∧ n ≤ a.2) ∧ (b.1 ≤ n ∧ n ≤ b.2) := by
  show ((if b.1 < a.1 then a.1 else b.1) ≤ n ∧ n ≤ (if a.2 < b.2 then a.2 else b.2)) ↔ _
  split <;> split <;> omega
theorem ovl_hi (a b : Int × Int) : (ovl a b).2 = if a.2 < b.2 then a.2 else b.2 := rfl

theorem CutInv.step {xs ys X Y out : List (Int × Int)} {a b : Int × Int} (h : CutInv xs ys (a :: X) (b :: Y) out) :
    CutInv xs ys (if a.2 < b.2 then X else a :: X) (if a.2 < b.2 then b :: Y else Y) (if (ovl a b).1 ≤ (ovl a b).2 then out ++ [ovl a b] else out) := by
  have ha := h.nx.head
  have hb := h.ny.head
  -- what the two heads share
  have hshare : ∀ n, (InI (a :: X) n ∧ InI (b :: Y) n) ↔ (((ovl a b).1 ≤ n ∧ n ≤ (ovl a b).2) ∨ (InI (if a.2 < b.2 then X else a :: X) n ∧ InI (if a.2 < b.2 then b :: Y else Y) n)) := by
    intro n
    rw [InI_ovl]
    by_cases hc : a.2 < b.2
    · rw [if_pos hc, if_pos hc]
      simp only [InI_cons]
      have h1 := hb.2 n
      constructor
      · rintro ⟨h2 | h2, h3 | h3⟩
        · exact .inl ⟨h2, h3⟩
        · have := h1 h3; omega
        · exact .inr ⟨h2, .inl h3⟩
        · exact .inr ⟨h2, .inr h3⟩
      · rintro (⟨h2, h3⟩ | ⟨h2, h3⟩)
        · exact ⟨.inl h2, .inl h3⟩
        · exact ⟨.inr h2, h3⟩
    · rw [if_neg hc, if_neg hc]
      simp only [InI_cons]
      have h1 := ha.2 n
      constructor
      · rintro ⟨h2 | h2, h3 | h3⟩
        · exact .inl ⟨h2, h3⟩
        · exact .inr ⟨.inl h2, h3⟩
        · have := h1 h2; omega
        · exact .inr ⟨.inr h2, h3⟩
      · rintro (⟨h2, h3⟩ | ⟨h2, h3⟩)
        · exact ⟨.inl h2, .inl h3⟩
        · exact ⟨h2, .inr h3⟩
  have hnx : NF (if a.2 < b.2 then X else a :: X) := by split; exact h.nx.tail; exact h.nx
  have hny : NF (if a.2 < b.2 then b :: Y else Y) := by split; exact h.ny; exact h.ny.tail
  have hnext : ∀ n, InI (if a.2 < b.2 then X else a :: X) n → InI (if a.2 < b.2 then b :: Y else Y) n → (ovl a b).2 + 2 ≤ n := by
    intro n h1 h2
    rw [ovl_hi]
    by_cases hc : a.2 < b.2
    · rw [if_pos hc] at h1 ⊢
      exact ha.2 n h1
    · rw [if_neg hc] at h2 ⊢
      exact hb.2 n h2
  by_cases ho : (ovl a b).1 ≤ (ovl a b).2
  · rw [if_pos ho]
    have hin := (hshare (ovl a b).1).2 (.inl ⟨Int.le_refl _, ho⟩)
    refine ⟨⟨?_, List.pairwise_append.2 ⟨h.nf.apart, by simp, fun x hx y hy => ?_⟩⟩, hnx, hny, fun n => ?_, ?_⟩
    · intro x hx
      rcases List.mem_append.1 hx with h1 | h1
      · exact h.nf.valid x h1
      · simp at h1; subst h1; exact ho
    · simp at hy; subst hy
      exact h.sep x hx _ hin.1 hin.2
    · rw [h.mem n, hshare n, InI_append, InI_single]
      exact ⟨fun h => by rcases h with h | h | h; exact .inl (.inl h); exact .inl (.inr h); exact .inr h, fun h => by rcases h with (h | h) | h; exact .inl h; exact .inr (.inl h); exact .inr (.inr h)⟩
    · intro x hx n h1 h2
      rcases List.mem_append.1 hx with h3 | h3
      · have := (hshare n).2 (.inr ⟨h1, h2⟩)
        exact h.sep x h3 n this.1 this.2
      · simp at h3; subst h3
        exact hnext n h1 h2
  · rw [if_neg ho]
    refine ⟨h.nf, hnx, hny, fun n => ?_, fun x hx n h1 h2 => ?_⟩
    · rw [h.mem n, hshare n]
      exact ⟨fun h => by rcases h with h | h | h; exact .inl h; exact absurd h (by omega); exact .inr h, fun h => by rcases h with h | h; exact .inl h; exact .inr (.inr h)⟩
    · have := (hshare n).2 (.inr ⟨h1, h2⟩)
      exact h.sep x hx n this.1 this.2

/-- zs is the normal form of the numbers of both. -/
def CutOf (xs ys zs : List (Int × Int)) : Prop := NF zs ∧ ∀ n, InI zs n ↔ InI xs n ∧ InI ys n
theorem CutInv.stop {xs ys X Y out : List (Int × Int)} (h : CutInv xs ys X Y out) (he : X = [] ∨ Y = []) : CutOf xs ys out := by
  refine ⟨h.nf, fun n => ?_⟩
  rw [h.mem n]
  rcases he with rfl | rfl <;> simp [InI_nil]
end Go.Proofs.Ytekjhdpadddkpaa
