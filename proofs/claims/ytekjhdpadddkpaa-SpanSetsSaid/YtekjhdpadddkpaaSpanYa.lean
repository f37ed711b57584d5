/- The reference's ends and form, as lists. -/
import Derived.Test.YtekjhdpadddkpaaSpanV
import Derived.Test.YtekjhdpadddkpaaSpanL
namespace Go.Proofs.Ytekjhdpadddkpaa
open Go.RowKit

def insN : List Int → Int → List Int
  | [], n => [n]
  | x :: xs, n => if x < n then x :: insN xs n else if x = n then x :: xs else n :: x :: xs
def Inc (xs : List Int) : Prop := xs.Pairwise (· < ·)
theorem mem_insN (m n : Int) : ∀ xs : List Int, m ∈ insN xs n ↔ m = n ∨ m ∈ xs
  | [] => by simp [insN]
  | x :: xs => by
    unfold insN
    split
    · simp only [List.mem_cons, mem_insN m n xs]
      constructor
      · rintro (h | h | h) <;> simp [h]
      · rintro (h | h | h) <;> simp [h]
    · split
      · rename_i h; subst h; simp
      · simp
theorem Inc.ins (n : Int) : ∀ {xs : List Int}, Inc xs → Inc (insN xs n)
  | [], _ => by simp [insN, Inc]
  | x :: xs, h => by
    have h1 := List.pairwise_cons.1 h
    unfold insN
    split
    · rename_i hlt
      refine List.pairwise_cons.2 ⟨fun y hy => ?_, Inc.ins n h1.2⟩
      rcases (mem_insN y n xs).1 hy with rfl | hy
      · exact hlt
      · exact h1.1 y hy
    · split
      · exact h
      · refine List.pairwise_cons.2 ⟨fun y hy => ?_, h⟩
        rcases List.mem_cons.1 hy with rfl | hy
        · omega
        · have := h1.1 y hy; omega
theorem len_insN (n : Int) : ∀ xs : List Int, (insN xs n).length ≤ xs.length + 1
  | [] => by simp [insN]
  | x :: xs => by
    have := len_insN n xs
    unfold insN
    split
    · simp; omega
    · split <;> simp
theorem insN_at {n : Int} : ∀ {xs : List Int} {i : Nat}, i ≤ xs.length → (∀ j x, j < i → xs[j]? = some x → x < n) → (∀ x, xs[i]? = some x → n ≤ x) →
    insN xs n = if xs[i]? = some n then xs else xs.take i ++ [n] ++ xs.drop i
  | [], i, hi, _, _ => by
    have : i = 0 := by simpa using hi
    subst this
    simp [insN]
  | x :: xs, 0, _, _, h => by
    have := h x (by simp)
    unfold insN
    rw [if_neg (by omega)]
    by_cases e : x = n
    · simp [e]
    · simp [e]
  | x :: xs, i + 1, hi, hl, h => by
    have hx := hl 0 x (by omega) (by simp)
    have := insN_at (n := n) (xs := xs) (i := i) (by simpa using hi) (fun j y hj hy => hl (j + 1) y (by omega) (by simpa using hy)) (fun y hy => h y (by simpa using hy))
    unfold insN
    rw [if_pos hx, this]
    simp only [List.getElem?_cons_succ]
    split <;> simp

def endsN (xs : List (Int × Int)) : List Int := xs.foldl (fun o x => insN (insN o x.1) (x.2 + 1)) []
theorem endsN_snoc (xs : List (Int × Int)) (a : Int × Int) : endsN (xs ++ [a]) = insN (insN (endsN xs) a.1) (a.2 + 1) := by simp [endsN]
theorem snoc_ind {P : List (Int × Int) → Prop} (h0 : P []) (h1 : ∀ xs a, P xs → P (xs ++ [a])) (xs : List (Int × Int)) : P xs := by
  have : ∀ ys : List (Int × Int), P ys.reverse := fun ys => by
    induction ys with
    | nil => exact h0
    | cons y ys ih => rw [List.reverse_cons]; exact h1 _ _ ih
  simpa using this xs.reverse
theorem inc_endsN (xs : List (Int × Int)) : Inc (endsN xs) :=
  snoc_ind (P := fun xs => Inc (endsN xs)) .nil (fun xs a h => by rw [endsN_snoc]; exact (h.ins _).ins _) xs
theorem mem_endsN (m : Int) (xs : List (Int × Int)) : m ∈ endsN xs ↔ ∃ x ∈ xs, m = x.1 ∨ m = x.2 + 1 :=
  snoc_ind (P := fun xs => m ∈ endsN xs ↔ ∃ x ∈ xs, m = x.1 ∨ m = x.2 + 1) (by simp [endsN]) (fun xs a h => by
    rw [endsN_snoc, mem_insN, mem_insN, h]
    constructor
    · rintro (h | h | ⟨x, hx, h⟩)
      · exact ⟨a, by simp, .inr h⟩
      · exact ⟨a, by simp, .inl h⟩
      · exact ⟨x, by simp [hx], h⟩
    · rintro ⟨x, hx, h⟩
      rcases List.mem_append.1 hx with hx | hx
      · exact .inr (.inr ⟨x, hx, h⟩)
      · simp at hx
        subst hx
        rcases h with h | h
        · exact .inr (.inl h)
        · exact .inl h) xs
theorem len_endsN (xs : List (Int × Int)) : (endsN xs).length ≤ 2 * xs.length :=
  snoc_ind (P := fun xs => (endsN xs).length ≤ 2 * xs.length) (by simp [endsN]) (fun xs a h => by
    rw [endsN_snoc]
    have h1 := len_insN (a.2 + 1) (insN (endsN xs) a.1)
    have h2 := len_insN a.1 (endsN xs)
    simp; omega) xs

def pairsN (ts : List Int) : List (Int × Int) := ts.zip ts.tail
theorem len_pairsN (ts : List Int) : (pairsN ts).length = ts.length - 1 := by simp [pairsN]
theorem pairsN_get {ts : List Int} {k : Nat} {p q : Int} (hp : ts[k]? = some p) (hq : ts[k + 1]? = some q) : (pairsN ts)[k]? = some (p, q) := by
  simp [pairsN, List.getElem?_zip_eq_some, hp, hq]
theorem pairsN_of {ts : List Int} {k : Nat} {z : Int × Int} (h : (pairsN ts)[k]? = some z) : ts[k]? = some z.1 ∧ ts[k + 1]? = some z.2 := by
  obtain ⟨p, q⟩ := z
  simpa [pairsN, List.getElem?_zip_eq_some] using h
theorem Inc.get {ts : List Int} (h : Inc ts) {i j : Nat} {x y : Int} (hij : i < j) (hx : ts[i]? = some x) (hy : ts[j]? = some y) : x < y := by
  obtain ⟨hi, rfl⟩ := List.getElem?_eq_some_iff.1 hx
  obtain ⟨hj, rfl⟩ := List.getElem?_eq_some_iff.1 hy
  exact List.pairwise_iff_getElem.1 h i j hi hj hij
/-- No number of an increasing list lies strictly between two neighbours. -/
theorem Inc.between {ts : List Int} (h : Inc ts) {k : Nat} {p q m : Int} (hp : ts[k]? = some p) (hq : ts[k + 1]? = some q) (hm : m ∈ ts) : m ≤ p ∨ q ≤ m := by
  obtain ⟨j, hj, rfl⟩ := List.getElem_of_mem hm
  have hj' := List.getElem?_eq_getElem hj
  rcases Nat.lt_trichotomy j k with hlt | heq | hgt
  · exact .inl (by have := h.get hlt hj' hp; omega)
  · subst heq; rw [hp] at hj'; cases hj'; exact .inl (Int.le_refl _)
  · rcases Nat.lt_or_ge (k + 1) j with h1 | h1
    · exact .inr (by have := h.get h1 hq hj'; omega)
    · have : j = k + 1 := by omega
      subst this; rw [hq] at hj'; cases hj'; exact .inr (Int.le_refl _)
theorem find_pair : ∀ {ts : List Int} {n a b : Int}, a ∈ ts → b ∈ ts → a ≤ n → n < b → Inc ts → ∃ z ∈ pairsN ts, z.1 ≤ n ∧ n < z.2
  | [], _, _, _, h, _, _, _, _ => by simp at h
  | [x], _, a, b, h1, h2, h3, h4, _ => by simp at h1 h2; subst h1; subst h2; omega
  | x :: y :: ts, n, a, b, h1, h2, h3, h4, hi => by
    have hc := List.pairwise_cons.1 hi
    by_cases hy : n < y
    · refine ⟨(x, y), by simp [pairsN], ?_, hy⟩
      rcases List.mem_cons.1 h1 with rfl | h1
      · exact h3
      · have hc2 := List.pairwise_cons.1 hc.2
        rcases List.mem_cons.1 h1 with rfl | h1
        · show x ≤ n; omega
        · have := hc2.1 a h1; have := hc.1 a (by simp [h1]); show x ≤ n; omega
    · have hb : b ∈ y :: ts := by
        rcases List.mem_cons.1 h2 with rfl | h2
        · have := hc.1 y (by simp); omega
        · exact h2
      obtain ⟨z, hz, h⟩ := find_pair (ts := y :: ts) (n := n) (a := y) (b := b) (by simp) hb (by omega) h4 hc.2
      exact ⟨z, by simp only [pairsN, List.tail_cons] at hz ⊢; simp only [List.zip_cons_cons, List.mem_cons]; exact .inr hz, h⟩

def segsN (f : Int → Bool) (ps : List (Int × Int)) : List (Int × Int) := (ps.filter fun p => f p.1).map fun p => (p.1, p.2 - 1)
theorem segsN_snoc (f : Int → Bool) (ps : List (Int × Int)) (a : Int × Int) : segsN f (ps ++ [a]) = segsN f ps ++ (if f a.1 then [(a.1, a.2 - 1)] else []) := by
  unfold segsN
  rw [List.filter_append, List.map_append]
  by_cases h : f a.1 <;> simp [h]
theorem mem_segsN {f : Int → Bool} {ps : List (Int × Int)} {s : Int × Int} : s ∈ segsN f ps ↔ ∃ p ∈ ps, f p.1 = true ∧ s = (p.1, p.2 - 1) := by
  simp [segsN]
  constructor
  · rintro ⟨a, b, ⟨h1, h2⟩, rfl⟩; exact ⟨a, b, h1, h2, rfl⟩
  · rintro ⟨a, b, h1, h2, rfl⟩; exact ⟨a, b, ⟨h1, h2⟩, rfl⟩
theorem pairs_sorted {ts : List Int} (h : Inc ts) : (pairsN ts).Pairwise fun x y => x.2 ≤ y.1 := by
  rw [List.pairwise_iff_getElem]
  intro i j hi hj hij
  have a := pairsN_of (List.getElem?_eq_getElem hi)
  have b := pairsN_of (List.getElem?_eq_getElem hj)
  rcases Nat.lt_or_ge (i + 1) j with h1 | h1
  · have := h.get h1 a.2 b.1; omega
  · have : i + 1 = j := by omega
    rw [this] at a
    have := a.2.symm.trans b.1
    have := Option.some.inj this
    omega
theorem pairs_valid {ts : List Int} (h : Inc ts) {z : Int × Int} (hz : z ∈ pairsN ts) : z.1 < z.2 ∧ z.1 ∈ ts ∧ z.2 ∈ ts := by
  obtain ⟨k, hk, rfl⟩ := List.getElem_of_mem hz
  have a := pairsN_of (List.getElem?_eq_getElem hk)
  exact ⟨h.get (by omega) a.1 a.2, List.mem_of_getElem? a.1, List.mem_of_getElem? a.2⟩
/-- What the loop has after k pairs is the normal form of the segments so far, all of it below the k-th end. -/
theorem segs_take {ts : List Int} (h : Inc ts) (f : Int → Bool) (k : Nat) : NFof (segsN f ((pairsN ts).take k)) (mrg (segsN f ((pairsN ts).take k))) := by
  have hps : ((pairsN ts).take k).Pairwise fun x y => x.2 ≤ y.1 := (pairs_sorted h).sublist (List.take_sublist _ _)
  have hv : ∀ x ∈ segsN f ((pairsN ts).take k), x.1 ≤ x.2 := fun x hx => by
    obtain ⟨p, hp, _, rfl⟩ := mem_segsN.1 hx
    have := (pairs_valid h (List.mem_of_mem_take hp)).1
    show p.1 ≤ p.2 - 1
    omega
  have hs : (segsN f ((pairsN ts).take k)).Pairwise fun x y => x.1 ≤ y.1 := by
    unfold segsN
    rw [List.pairwise_map]
    refine (hps.sublist List.filter_sublist).imp_of_mem ?_
    intro x y hx _ hxy
    have := (pairs_valid h (List.mem_of_mem_take ((List.mem_filter.1 hx).1))).1
    show x.1 ≤ y.1
    omega
  obtain ⟨m, hm⟩ : ∃ m : Int, ∀ x ∈ segsN f ((pairsN ts).take k), x.1 ≤ m := by
    generalize segsN f ((pairsN ts).take k) = l
    induction l with
    | nil => exact ⟨0, by simp⟩
    | cons x l ih =>
      obtain ⟨m, hm⟩ := ih
      refine ⟨max x.1 m, fun y hy => ?_⟩
      rcases List.mem_cons.1 hy with rfl | hy
      · omega
      · have := hm y hy; omega
  have := mrg_joined _ hv hs m hm
  exact ⟨this.nf, this.same⟩

def kindB (k : Int) (x y : Bool) : Bool := (k == 1 && (x || y)) || (k == 2 && (x && !y)) || (k == 3 && (x && y))
def formN (k : Int) (xs ys : List (Int × Int)) : List (Int × Int) := mrg (segsN (fun n => kindB k (inAny xs n) (inAny ys n)) (pairsN (endsN (xs ++ ys))))

theorem form_of {k : Int} {xs ys : List (Int × Int)} : NF (formN k xs ys) ∧ ∀ n, InI (formN k xs ys) n ↔ kindB k (inAny xs n) (inAny ys n) = true := by
  have hinc := inc_endsN (xs ++ ys)
  have hs := segs_take hinc (fun n => kindB k (inAny xs n) (inAny ys n)) (pairsN (endsN (xs ++ ys))).length
  rw [List.take_length] at hs
  refine ⟨hs.1, fun n => (hs.2 n).trans ?_⟩
  have hsame : ∀ z ∈ pairsN (endsN (xs ++ ys)), ∀ n, z.1 ≤ n → n < z.2 → ∀ l : List (Int × Int), (∀ x ∈ l, x ∈ xs ++ ys) → inAny l n = inAny l z.1 := by
    intro z hz n h1 h2 l hl
    rw [Bool.eq_iff_iff, inAny_iff, inAny_iff]
    obtain ⟨j, hj, rfl⟩ := List.getElem_of_mem hz
    have a := pairsN_of (List.getElem?_eq_getElem hj)
    have key : ∀ x ∈ l, (x.1 ≤ n ∧ n ≤ x.2) ↔ (x.1 ≤ (pairsN (endsN (xs ++ ys)))[j].1 ∧ (pairsN (endsN (xs ++ ys)))[j].1 ≤ x.2) := by
      intro x hx
      have b1 := hinc.between a.1 a.2 ((mem_endsN x.1 (xs ++ ys)).2 ⟨x, hl x hx, .inl rfl⟩)
      have b2 := hinc.between a.1 a.2 ((mem_endsN (x.2 + 1) (xs ++ ys)).2 ⟨x, hl x hx, .inr rfl⟩)
      omega
    constructor
    · rintro ⟨x, hx, h⟩; exact ⟨x, hx, (key x hx).1 h⟩
    · rintro ⟨x, hx, h⟩; exact ⟨x, hx, (key x hx).2 h⟩
  constructor
  · rintro ⟨s, hs, h⟩
    obtain ⟨p, hp, hf, rfl⟩ := mem_segsN.1 hs
    have h1 : p.1 ≤ n := h.1
    have h2 : n ≤ p.2 - 1 := h.2
    rw [hsame p hp n h1 (by omega) xs (fun x hx => List.mem_append_left _ hx), hsame p hp n h1 (by omega) ys (fun x hx => List.mem_append_right _ hx)]
    exact hf
  · intro hf
    obtain ⟨x, hx, h1, h2⟩ : InI (xs ++ ys) n := by
      rw [InI_append, ← inAny_iff, ← inAny_iff]
      revert hf
      cases inAny xs n <;> cases inAny ys n <;> simp [kindB]
    obtain ⟨z, hz, h3, h4⟩ := find_pair (n := n) ((mem_endsN x.1 (xs ++ ys)).2 ⟨x, hx, .inl rfl⟩) ((mem_endsN (x.2 + 1) (xs ++ ys)).2 ⟨x, hx, .inr rfl⟩) h1 (by omega) hinc
    refine ⟨(z.1, z.2 - 1), mem_segsN.2 ⟨z, hz, ?_, rfl⟩, h3, by show n ≤ z.2 - 1; omega⟩
    show kindB k _ _ = true
    rw [← hsame z hz n h3 h4 xs (fun x hx => List.mem_append_left _ hx), ← hsame z hz n h3 h4 ys (fun x hx => List.mem_append_right _ hx)]
    exact hf

/-- One step of the reference's loop. -/
theorem form_step {ts : List Int} (hinc : Inc ts) (f : Int → Bool) {k : Nat} {p q : Int} (hp : ts[k]? = some p) (hq : ts[k + 1]? = some q) :
    let out := mrg (segsN f ((pairsN ts).take k))
    (∀ l, out.getLast? = some l → l.1 ≤ l.2 ∧ l.2 + 1 ≤ p ∧ ∃ t ∈ ts, t ≤ l.2) ∧
    mrg (segsN f ((pairsN ts).take (k + 1))) = (if f p then (match out.getLast? with
      | some l => if l.2 + 1 = p then out.dropLast ++ [(l.1, q - 1)] else out ++ [(p, q - 1)]
      | none => out ++ [(p, q - 1)]) else out) := by
  intro out
  have hlt := hinc.get (Nat.lt_succ_self k) hp hq
  have hs := segs_take hinc f k
  have hl : ∀ l, out.getLast? = some l → l.1 ≤ l.2 ∧ l.2 + 1 ≤ p ∧ ∃ t ∈ ts, t ≤ l.2 := by
    intro l hl
    have hm : l ∈ out := List.mem_of_getLast? hl
    have hv := hs.1.valid l hm
    obtain ⟨s, hss, h1, h2⟩ := (hs.2 l.2).1 ⟨l, hm, hv, Int.le_refl _⟩
    obtain ⟨z, hz, _, rfl⟩ := mem_segsN.1 hss
    obtain ⟨j, hj, hzj⟩ := List.mem_take_iff_getElem.1 hz
    have hz' := pairsN_of (show (pairsN ts)[j]? = some z by rw [← hzj]; exact List.getElem?_eq_getElem _)
    have hjk : j < k := by omega
    have h3 : l.2 ≤ z.2 - 1 := h2
    refine ⟨hv, ?_, z.1, List.mem_of_getElem? hz'.1, h1⟩
    rcases Nat.lt_or_ge (j + 1) k with h4 | h4
    · have := hinc.get h4 hz'.2 hp; omega
    · have : j + 1 = k := by omega
      rw [this] at hz'
      have := Option.some.inj (hz'.2.symm.trans hp)
      omega
  refine ⟨hl, ?_⟩
  have ht : (pairsN ts).take (k + 1) = (pairsN ts).take k ++ [(p, q)] := take_snocI (pairsN_get hp hq)
  rw [ht, segsN_snoc]
  by_cases hf : f p = true
  · simp only [hf, if_true]
    rw [mrg_snoc]
    show push out (p, q - 1) = _
    unfold push
    rcases hg : out.getLast? with _ | l
    · rfl
    · obtain ⟨h1, h2, _⟩ := hl l hg
      simp only
      by_cases he : l.2 + 1 = p
      · rw [if_pos (by omega), if_pos he, if_pos (by omega)]
      · rw [if_neg (by omega), if_neg he]
  · simp [hf, out]

/-- The slice at A reads as the numbers xs, below block B. -/
def RdN (w : World) (B : Nat) (A : Option Addr) (xs : List Int) : Prop :=
  ∀ k, k < xs.length → ∃ b off x, A = some ⟨b, off, none⟩ ∧ b < B ∧ xs[k]? = some x ∧ w.cell? ⟨b, off + k, none⟩ = some (.int .i64 x)
theorem RdN.below {w w' : World} {B : Nat} {A : Option Addr} {xs : List Int} (h : RdN w B A xs) (hb : Below B w w') : RdN w' B A xs := by
  intro k hk
  obtain ⟨b, off, x, hA, hB, hx, h1⟩ := h k hk
  exact ⟨b, off, x, hA, hB, hx, (hb.cell (p := ⟨b, _, none⟩) hB).trans h1⟩
theorem RdN.more {w : World} {B B' : Nat} {A : Option Addr} {xs : List Int} (h : RdN w B A xs) (hb : B ≤ B') : RdN w B' A xs := by
  intro k hk
  obtain ⟨b, off, x, hA, hB, hx, h1⟩ := h k hk
  exact ⟨b, off, x, hA, Nat.lt_of_lt_of_le hB hb, hx, h1⟩
theorem RdN.nil (w : World) (B : Nat) (A : Option Addr) : RdN w B A [] := fun _ h => absurd h (by simp)
def cellsN (xs : List Int) : List Value := xs.map fun x => .int .i64 x
theorem RdC.nums {w : World} {B : Nat} {A : Option Addr} {xs : List Int} (h : RdC w B A (cellsN xs)) : RdN w B A xs := by
  intro k hk
  rcases h with h | ⟨b, off, hA, hB, hc⟩
  · have : xs = [] := by simpa [cellsN] using h
    subst this; simp at hk
  · exact ⟨b, off, xs[k], hA, hB, List.getElem?_eq_getElem hk, hc k _ (by simp [cellsN, hk])⟩
/-- The first i numbers, as cells, at A; the others, as cells, at A and i on. -/
theorem RdN.takeC {w : World} {B : Nat} {A : Option Addr} {xs : List Int} (h : RdN w B A xs) (i : Nat) : RdC w B A (cellsN (xs.take i)) := by
  by_cases he : cellsN (xs.take i) = []
  · exact .inl he
  · have h0 : 0 < xs.length := by
      rcases xs with _ | ⟨x, xs⟩
      · simp [cellsN] at he
      · simp
    obtain ⟨b, off, x, hA, hB, _, _⟩ := h 0 h0
    refine .inr ⟨b, off, hA, hB, fun j u hu => ?_⟩
    have hj : j < xs.length ∧ j < i := by
      have := (List.getElem?_eq_some_iff.1 hu).1
      simp [cellsN] at this; omega
    obtain ⟨b', off', y, hA', _, hy, hc⟩ := h j hj.1
    cases hA.symm.trans hA'
    have : u = .int .i64 y := by
      have h1 := hu
      simp only [cellsN, List.getElem?_map, List.getElem?_take_of_lt hj.2, hy, Option.map_some, Option.some.injEq] at h1
      exact h1.symm
    rw [this]; exact hc
theorem RdN.dropC {w : World} {B : Nat} {b off : Nat} {xs : List Int} (h : RdN w B (some ⟨b, off, none⟩) xs) (i : Nat) : RdC w B (some ⟨b, off + i, none⟩) (cellsN (xs.drop i)) := by
  by_cases he : cellsN (xs.drop i) = []
  · exact .inl he
  · have h0 : i < xs.length := by
      rcases Nat.lt_or_ge i xs.length with h1 | h1
      · exact h1
      · rw [List.drop_eq_nil_of_le h1] at he; exact absurd rfl he
    obtain ⟨b', off', x, hA, hB, _, _⟩ := h i h0
    cases hA
    refine .inr ⟨b, off + i, rfl, hB, fun j u hu => ?_⟩
    have hj : i + j < xs.length := by
      have := (List.getElem?_eq_some_iff.1 hu).1
      simp [cellsN] at this; omega
    obtain ⟨b', off', y, hA', _, hy, hc⟩ := h (i + j) hj
    cases hA'
    have : u = .int .i64 y := by
      have h1 := hu
      simp only [cellsN, List.getElem?_map, List.getElem?_drop, hy, Option.map_some, Option.some.injEq] at h1
      exact h1.symm
    rw [this, Nat.add_assoc]; exact hc
def OwnN (w : World) (base : Nat) (v : Value) (xs : List Int) : Prop := w.ownsRow base 3 1 v xs.length (cellsN xs)
theorem OwnN.form {w : World} {base : Nat} {v : Value} {xs : List Int} (h : OwnN w base v xs) : ∃ A c, v = .slice A xs.length c ∧ xs.length ≤ c ∧ c ≤ maxLen ∧ RdN w w.heap.size A xs := by
  obtain ⟨A, c, hv, hr⟩ := RdC.of_own h
  refine ⟨A, c, hv, ?_, ?_, hr.nums⟩
  · rcases h.2 with ⟨h1, h2⟩ | ⟨g, cap, cur, h1, _, _, h2, h3, _⟩
    · rw [h2]; omega
    · rw [hv] at h1; cases h1; exact h2
  · rcases h.2 with ⟨h1, h2⟩ | ⟨g, cap, cur, h1, _, _, h2, h3, _⟩
    · rw [hv] at h1; injection h1 with _ _ h1; rw [h1]; exact Nat.zero_le _
    · rw [hv] at h1; cases h1; exact h3
theorem Try.infoInt : (Try.prog.info? 3).map (fun i => (i.zero, i.size, i.bytes)) = some (some (.int .i64 0), 1, 8) := by kernel_rfl
theorem cellsN_one {xs : List Int} : ∀ u ∈ cellsN xs, u.oneCell' = true := by
  intro u hu
  simp only [cellsN, List.mem_map] at hu
  obtain ⟨x, _, rfl⟩ := hu
  rfl
end Go.Proofs.Ytekjhdpadddkpaa
