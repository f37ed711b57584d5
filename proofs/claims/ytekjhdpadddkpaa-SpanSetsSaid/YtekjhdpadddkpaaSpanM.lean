/- Sets of integers as lists of intervals: normal forms, plain. No program in sight. -/
namespace Go.Proofs.Ytekjhdpadddkpaa

def InI (xs : List (Int × Int)) (n : Int) : Prop := ∃ x ∈ xs, x.1 ≤ n ∧ n ≤ x.2
structure NF (xs : List (Int × Int)) : Prop where
  valid : ∀ x ∈ xs, x.1 ≤ x.2
  apart : xs.Pairwise fun x y => x.2 + 2 ≤ y.1

theorem InI_nil (n : Int) : ¬ InI [] n := fun ⟨_, h, _⟩ => by simp at h
theorem InI_append (xs ys : List (Int × Int)) (n : Int) : InI (xs ++ ys) n ↔ InI xs n ∨ InI ys n := by
  simp only [InI, List.mem_append]
  constructor
  · rintro ⟨x, h | h, hn⟩
    · exact .inl ⟨x, h, hn⟩
    · exact .inr ⟨x, h, hn⟩
  · rintro (⟨x, h, hn⟩ | ⟨x, h, hn⟩)
    · exact ⟨x, .inl h, hn⟩
    · exact ⟨x, .inr h, hn⟩
theorem InI_single (x : Int × Int) (n : Int) : InI [x] n ↔ x.1 ≤ n ∧ n ≤ x.2 := by simp [InI]
theorem InI_cons (x : Int × Int) (xs : List (Int × Int)) (n : Int) : InI (x :: xs) n ↔ (x.1 ≤ n ∧ n ≤ x.2) ∨ InI xs n := by
  rw [show x :: xs = [x] ++ xs from rfl, InI_append, InI_single]
theorem InI_perm {xs ys : List (Int × Int)} (h : xs.Perm ys) (n : Int) : InI xs n ↔ InI ys n :=
  ⟨fun ⟨x, hx, hn⟩ => ⟨x, h.mem_iff.1 hx, hn⟩, fun ⟨x, hx, hn⟩ => ⟨x, h.mem_iff.2 hx, hn⟩⟩

theorem NF.nil : NF [] := ⟨by simp, .nil⟩
theorem NF.tail {x : Int × Int} {xs : List (Int × Int)} (h : NF (x :: xs)) : NF xs := ⟨fun y hy => h.valid y (by simp [hy]), (List.pairwise_cons.1 h.apart).2⟩
theorem NF.head {x : Int × Int} {xs : List (Int × Int)} (h : NF (x :: xs)) : x.1 ≤ x.2 ∧ ∀ n, InI xs n → x.2 + 2 ≤ n :=
  ⟨h.valid x (by simp), fun n ⟨y, hy, hn⟩ => by have := (List.pairwise_cons.1 h.apart).1 y hy; omega⟩

/-- A set has one normal form. -/
theorem NF.unique : ∀ {xs ys : List (Int × Int)}, NF xs → NF ys → (∀ n, InI xs n ↔ InI ys n) → xs = ys
  | [], [], _, _, _ => rfl
  | [], y :: ys, _, hy, h => by
    have := (h y.1).2 ((InI_cons _ _ _).2 (.inl ⟨Int.le_refl _, hy.head.1⟩))
    exact absurd this (InI_nil _)
  | x :: xs, [], hx, _, h => by
    have := (h x.1).1 ((InI_cons _ _ _).2 (.inl ⟨Int.le_refl _, hx.head.1⟩))
    exact absurd this (InI_nil _)
  | x :: xs, y :: ys, hx, hy, h => by
    have ax := hx.head
    have ay := hy.head
    have h' : ∀ n, ((x.1 ≤ n ∧ n ≤ x.2) ∨ InI xs n) ↔ ((y.1 ≤ n ∧ n ≤ y.2) ∨ InI ys n) := fun n => by
      have := h n
      rwa [InI_cons, InI_cons] at this
    have lo1 : y.1 ≤ x.1 := by
      rcases (h' x.1).1 (.inl ⟨Int.le_refl _, ax.1⟩) with h1 | h1
      · exact h1.1
      · have := ay.2 _ h1; omega
    have lo2 : x.1 ≤ y.1 := by
      rcases (h' y.1).2 (.inl ⟨Int.le_refl _, ay.1⟩) with h1 | h1
      · exact h1.1
      · have := ax.2 _ h1; omega
    have hi1 : ¬ x.2 < y.2 := fun hlt => by
      rcases (h' (x.2 + 1)).2 (.inl ⟨by omega, by omega⟩) with h1 | h1
      · omega
      · have := ax.2 _ h1; omega
    have hi2 : ¬ y.2 < x.2 := fun hlt => by
      rcases (h' (y.2 + 1)).1 (.inl ⟨by omega, by omega⟩) with h1 | h1
      · omega
      · have := ay.2 _ h1; omega
    have e : x = y := Prod.ext (by omega) (by omega)
    subst e
    congr 1
    refine NF.unique hx.tail hy.tail fun n => ?_
    constructor
    · intro hn
      have b := ax.2 _ hn
      rcases (h' n).1 (.inr hn) with h1 | h1
      · omega
      · exact h1
    · intro hn
      have b := ay.2 _ hn
      rcases (h' n).2 (.inr hn) with h1 | h1
      · omega
      · exact h1

/-- One step of joining. -/
def push (out : List (Int × Int)) (a : Int × Int) : List (Int × Int) :=
  match out.getLast? with
  | some l => if a.1 ≤ l.2 + 1 then out.dropLast ++ [(l.1, if l.2 < a.2 then a.2 else l.2)] else out ++ [a]
  | none => out ++ [a]
def mrg (ys : List (Int × Int)) : List (Int × Int) := ys.foldl push []
theorem mrg_snoc (ys : List (Int × Int)) (a : Int × Int) : mrg (ys ++ [a]) = push (mrg ys) a := by simp [mrg]

/-- What is joined so far: a normal form, all of whose intervals begin at m or before, of the same numbers. -/
structure Joined (ys out : List (Int × Int)) (m : Int) : Prop where
  nf : NF out
  lo : ∀ x ∈ out, x.1 ≤ m
  same : ∀ n, InI out n ↔ InI ys n

theorem Joined.step {ys out : List (Int × Int)} {m : Int} {a : Int × Int} (h : Joined ys out m) (hm : m ≤ a.1) (ha : a.1 ≤ a.2) : Joined (ys ++ [a]) (push out a) a.1 := by
  unfold push
  rcases hl : out.getLast? with _ | l
  · have : out = [] := by simpa using hl
    subst this
    refine ⟨⟨by simp [ha], by simp⟩, by simp, fun n => ?_⟩
    have := h.same n
    simp only [List.nil_append]
    rw [InI_append, ← this]
    simp [InI_nil]
  · obtain ⟨init, rfl⟩ : ∃ init, out = init ++ [l] := by
      have hne : out ≠ [] := by rintro rfl; simp at hl
      refine ⟨out.dropLast, ?_⟩
      have := List.dropLast_concat_getLast hne
      rw [List.getLast?_eq_some_getLast hne] at hl
      cases hl
      exact this.symm
    have hp := List.pairwise_append.1 h.nf.apart
    have hlv : l.1 ≤ l.2 := h.nf.valid l (by simp)
    have hlm : l.1 ≤ m := h.lo l (by simp)
    have hsep : ∀ x ∈ init, x.2 + 2 ≤ l.1 := fun x hx => hp.2.2 x hx l (by simp)
    show Joined _ (if a.1 ≤ l.2 + 1 then (init ++ [l]).dropLast ++ [(l.1, if l.2 < a.2 then a.2 else l.2)] else (init ++ [l]) ++ [a]) a.1
    have hsame := h.same
    have hb : ∀ n, InI (ys ++ [a]) n ↔ ((InI init n ∨ (l.1 ≤ n ∧ n ≤ l.2)) ∨ (a.1 ≤ n ∧ n ≤ a.2)) := fun n => by
      rw [InI_append, ← hsame n, InI_append, InI_single, InI_single]
    by_cases hc : a.1 ≤ l.2 + 1
    · rw [if_pos hc, List.dropLast_concat]
      generalize hz : (if l.2 < a.2 then a.2 else l.2) = z
      have hz1 : l.2 ≤ z ∧ a.2 ≤ z ∧ (z = l.2 ∨ z = a.2) := by subst hz; split <;> omega
      refine ⟨⟨?_, List.pairwise_append.2 ⟨hp.1, by simp, fun x hx y hy => by simp at hy; subst hy; exact hsep x hx⟩⟩, ?_, fun n => ?_⟩
      · intro x hx
        rcases List.mem_append.1 hx with h1 | h1
        · exact h.nf.valid x (by simp [h1])
        · simp at h1; subst h1; show l.1 ≤ z; omega
      · intro x hx
        rcases List.mem_append.1 hx with h1 | h1
        · have := h.lo x (by simp [h1]); omega
        · simp at h1; subst h1; show l.1 ≤ a.1; omega
      · rw [hb n, InI_append, InI_single]
        show InI init n ∨ (l.1 ≤ n ∧ n ≤ z) ↔ _
        constructor
        · rintro (h1 | h1)
          · exact .inl (.inl h1)
          · by_cases hn : n ≤ l.2
            · exact .inl (.inr ⟨h1.1, hn⟩)
            · exact .inr ⟨by omega, by omega⟩
        · rintro ((h1 | h1) | h1)
          · exact .inl h1
          · exact .inr ⟨h1.1, by omega⟩
          · exact .inr ⟨by omega, by omega⟩
    · rw [if_neg hc]
      refine ⟨⟨?_, List.pairwise_append.2 ⟨h.nf.apart, by simp, fun x hx y hy => ?_⟩⟩, ?_, fun n => ?_⟩
      · intro x hx
        rcases List.mem_append.1 hx with h1 | h1
        · exact h.nf.valid x h1
        · simp at h1; subst h1; exact ha
      · simp at hy; subst hy
        rcases List.mem_append.1 hx with h1 | h1
        · have := hsep x h1; omega
        · simp at h1; subst h1; omega
      · intro x hx
        rcases List.mem_append.1 hx with h1 | h1
        · have := h.lo x h1; omega
        · simp at h1; subst h1; omega
      · rw [hb n, InI_append, InI_append, InI_single, InI_single]

theorem mrg_joined (ys : List (Int × Int)) (hv : ∀ x ∈ ys, x.1 ≤ x.2) (hs : ys.Pairwise fun x y => x.1 ≤ y.1) (m : Int) (hm : ∀ x ∈ ys, x.1 ≤ m) : Joined ys (mrg ys) m := by
  obtain ⟨n, hn⟩ : ∃ n, n = ys.length := ⟨_, rfl⟩
  induction n generalizing ys m with
  | zero =>
    have : ys = [] := List.eq_nil_of_length_eq_zero hn.symm
    subst this
    exact ⟨.nil, by simp [mrg], fun _ => Iff.rfl⟩
  | succ n ih =>
    have hne : ys ≠ [] := by rintro rfl; simp at hn
    obtain ⟨init, a, rfl⟩ : ∃ init a, ys = init ++ [a] := ⟨ys.dropLast, ys.getLast hne, (List.dropLast_concat_getLast hne).symm⟩
    have hp := List.pairwise_append.1 hs
    have h1 := ih init (fun x hx => hv x (by simp [hx])) hp.1 a.1 (fun x hx => hp.2.2 x hx a (by simp)) (by simp at hn; exact hn)
    have h2 := h1.step (Int.le_refl _) (hv a (by simp))
    rw [mrg_snoc]
    exact ⟨h2.nf, fun x hx => Int.le_trans (h2.lo x hx) (hm a (by simp)), h2.same⟩
theorem push_len (out : List (Int × Int)) (a : Int × Int) : (push out a).length ≤ out.length + 1 := by
  unfold push
  split
  · split <;> simp <;> omega
  · simp
theorem mrg_len (ys : List (Int × Int)) : (mrg ys).length ≤ ys.length := by
  obtain ⟨n, hn⟩ : ∃ n, n = ys.length := ⟨_, rfl⟩
  induction n generalizing ys with
  | zero => rw [List.eq_nil_of_length_eq_zero hn.symm]; simp [mrg]
  | succ n ih =>
    have hne : ys ≠ [] := by rintro rfl; simp at hn
    obtain ⟨init, a, rfl⟩ : ∃ init a, ys = init ++ [a] := ⟨ys.dropLast, ys.getLast hne, (List.dropLast_concat_getLast hne).symm⟩
    rw [mrg_snoc]
    have h1 := push_len (mrg init) a
    have h2 := ih init (by simp at hn; exact hn)
    simp
    omega
end Go.Proofs.Ytekjhdpadddkpaa
