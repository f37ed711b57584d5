/- How many numbers a normal form has; counts of unions add up. Plain. -/
import Derived.Test.YtekjhdpadddkpaaSpanV
namespace Go.Proofs.Ytekjhdpadddkpaa

/-- How many of the L numbers from a on f accepts. -/
def cntF (f : Int → Bool) (a : Int) : Nat → Int
  | 0 => 0
  | L + 1 => cntF f a L + if f (a + L) = true then 1 else 0
theorem cntF_split (f : Int → Bool) (a : Int) (L K : Nat) : cntF f a (L + K) = cntF f a L + cntF f (a + L) K := by
  induction K with
  | zero => simp [cntF]
  | succ K ih =>
    rw [← Nat.add_assoc, cntF, ih, cntF, show a + ((L + K : Nat) : Int) = a + (L : Int) + (K : Int) by omega]
    omega
theorem cntF_congr {f g : Int → Bool} {a : Int} {L : Nat} (h : ∀ n, a ≤ n → n < a + L → f n = g n) : cntF f a L = cntF g a L := by
  induction L with
  | zero => rfl
  | succ L ih =>
    rw [cntF, cntF, ih fun n h1 h2 => h n h1 (by omega), h (a + L) (by omega) (by omega)]
theorem cntF_all {f : Int → Bool} {a : Int} {L : Nat} (h : ∀ n, a ≤ n → n < a + L → f n = true) : cntF f a L = L := by
  induction L with
  | zero => rfl
  | succ L ih =>
    rw [cntF, ih fun n h1 h2 => h n h1 (by omega), h (a + L) (by omega) (by omega)]
    simp
theorem cntF_none {f : Int → Bool} {a : Int} {L : Nat} (h : ∀ n, a ≤ n → n < a + L → f n = false) : cntF f a L = 0 := by
  induction L with
  | zero => rfl
  | succ L ih =>
    rw [cntF, ih fun n h1 h2 => h n h1 (by omega), h (a + L) (by omega) (by omega)]
    simp
theorem cntF_both (f g : Int → Bool) (a : Int) (L : Nat) : cntF (fun n => f n || g n) a L = cntF f a L + cntF g a L - cntF (fun n => f n && g n) a L := by
  induction L with
  | zero => rfl
  | succ L ih =>
    simp only [cntF, ih]
    by_cases h1 : f (a + L) = true <;> by_cases h2 : g (a + L) = true <;> simp [h1, h2] <;> omega

theorem cntN_cntF (zs : List (Int × Int)) : ∀ (a : Int) (L : Nat), NF zs → (∀ z ∈ zs, a ≤ z.1 ∧ z.2 < a + L) → cntN zs = cntF (inAny zs) a L := by
  induction zs with
  | nil => intro a L _ _; rw [cntF_none (fun n _ _ => by simp [inAny])]; rfl
  | cons z zs ih =>
    intro a L hnf hb
    have hz := hb z (by simp)
    have hd := hnf.head
    obtain ⟨K, hK⟩ : ∃ K : Nat, (K : Int) = z.1 - a := ⟨(z.1 - a).toNat, by omega⟩
    obtain ⟨D, hD⟩ : ∃ D : Nat, (D : Int) = z.2 - z.1 + 1 := ⟨(z.2 - z.1 + 1).toNat, by omega⟩
    obtain ⟨R, hR⟩ : ∃ R : Nat, L = K + (D + R) := ⟨L - K - D, by omega⟩
    have hcons : ∀ n, inAny (z :: zs) n = (inB z n || inAny zs n) := fun n => by simp [inAny]
    have hlater : ∀ n, inAny zs n = true → z.2 + 2 ≤ n := fun n h => hd.2 n ((inAny_iff zs n).1 h)
    have e1 : cntF (inAny (z :: zs)) a K = 0 := cntF_none fun n h1 h2 => by
      rw [hcons]
      have h3 : inB z n = false := by simp [inB]; omega
      have h4 : inAny zs n = false := by
        rcases h : inAny zs n with _ | _
        · rfl
        · have := hlater n h; omega
      rw [h3, h4]; rfl
    have e2 : cntF (inAny (z :: zs)) (a + K) D = D := cntF_all fun n h1 h2 => by
      rw [hcons]
      have h3 : inB z n = true := by simp [inB]; omega
      rw [h3]; rfl
    have e3 : cntF (inAny (z :: zs)) (a + K + D) R = cntF (inAny zs) (a + K + D) R := cntF_congr fun n h1 h2 => by
      rw [hcons]
      have h3 : inB z n = false := by simp [inB]; omega
      rw [h3]; rfl
    rw [hR, cntF_split, cntF_split, e1, e2, e3, ← ih (a + K + D) R hnf.tail fun y hy => by
      have h1 := (List.pairwise_cons.1 hnf.apart).1 y hy
      have h2 := hb y (by simp [hy])
      omega]
    simp only [cntN, List.map_cons, List.sum_cons]
    omega

theorem counts_add {xs ys us ns yn cs : List (Int × Int)} (hv : ValidI (xs ++ ys)) (hu : NFof (xs ++ ys) us) (hn : NFof xs ns) (hy : NFof ys yn) (hc : CutOf xs ys cs) : cntN us = cntN ns + cntN yn - cntN cs := by
  have key : ∀ L : Nat, (L : Int) = 2000000000001 → cntN us = cntN ns + cntN yn - cntN cs := fun L hL => by
    have hvc : ValidI cs := fun z hz => by
      have h1 := hc.1.valid z hz
      obtain ⟨x, hx, p⟩ := ((hc.2 z.1).1 ⟨z, hz, Int.le_refl _, h1⟩).1
      obtain ⟨y, hy, q⟩ := ((hc.2 z.2).1 ⟨z, hz, h1, Int.le_refl _⟩).1
      have := hv x (by simp [hx]); have := hv y (by simp [hy]); omega
    have hb : ∀ zs : List (Int × Int), ValidI zs → ∀ z ∈ zs, -1000000000000 ≤ z.1 ∧ z.2 < -1000000000000 + (L : Int) := fun zs h z hz => by
      have := h z hz; omega
    rw [cntN_cntF us _ L hu.1 (hb us (hu.bounds hv)), cntN_cntF ns _ L hn.1 (hb ns (hn.bounds hv.left)), cntN_cntF yn _ L hy.1 (hb yn (hy.bounds hv.right)), cntN_cntF cs _ L hc.1 (hb cs hvc)]
    rw [cntF_congr (g := fun n => inAny ns n || inAny yn n) fun n _ _ => boolIff (by rw [inAny_iff, hu.2 n, InI_append, Bool.or_eq_true, inAny_iff, inAny_iff, hn.2 n, hy.2 n]), cntF_both]
    congr 1
    exact cntF_congr fun n _ _ => boolIff (by rw [Bool.and_eq_true, inAny_iff, inAny_iff, inAny_iff, hn.2 n, hy.2 n, hc.2 n])
  exact key 2000000000001 (by omega)

theorem NFof.same {xs ys zs us : List (Int × Int)} (h1 : NFof xs zs) (h2 : NFof ys us) (h : ∀ n, InI xs n ↔ InI ys n) : us = zs := NF.unique h2.1 h1.1 fun n => by rw [h1.2 n, h2.2 n, h n]
theorem NFof.self {xs zs us : List (Int × Int)} (h1 : NFof xs zs) (h2 : NFof zs us) : us = zs := NF.unique h2.1 h1.1 fun n => by rw [h2.2 n]
theorem LessOf.valid {xs ys zs : List (Int × Int)} (h : LessOf xs ys zs) (hv : ValidI xs) : ValidI zs := fun z hz => by
  have h1 := h.1.valid z hz
  obtain ⟨x, hx, p⟩ := ((h.2 z.1).1 ⟨z, hz, Int.le_refl _, h1⟩).1
  obtain ⟨y, hy, q⟩ := ((h.2 z.2).1 ⟨z, hz, h1, Int.le_refl _⟩).1
  have := hv x hx; have := hv y hy; omega
theorem CutOf.valid {xs ys zs : List (Int × Int)} (h : CutOf xs ys zs) (hv : ValidI xs) : ValidI zs := fun z hz => by
  have h1 := h.1.valid z hz
  obtain ⟨x, hx, p⟩ := ((h.2 z.1).1 ⟨z, hz, Int.le_refl _, h1⟩).1
  obtain ⟨y, hy, q⟩ := ((h.2 z.2).1 ⟨z, hz, h1, Int.le_refl _⟩).1
  have := hv x hx; have := hv y hy; omega
theorem whole {xs ys ms cs ns us : List (Int × Int)} (hm : LessOf xs ys ms) (hc : CutOf xs ys cs) (hn : NFof xs ns) (hu : NFof (ms ++ cs) us) : us = ns := NF.unique hu.1 hn.1 fun n => by
  rw [hu.2 n, InI_append, hm.2 n, hc.2 n, hn.2 n]
  by_cases h : InI ys n <;> simp [h]
theorem err1_of {xs : List (Int × Int)} (hv : ValidI xs) (hl : xs.length ≤ 10000) : err1 xs = 0 := by
  have h1 : xs.all inR = true := List.all_eq_true.2 fun x hx => (inR_iff x).2 (by have := hv x hx; omega)
  have h2 : xs.all leB = true := List.all_eq_true.2 fun x hx => (leB_iff x).2 (hv x hx).2.1
  simp [err1, errAll, h1, h2]; omega
theorem err2_of {xs ys : List (Int × Int)} (hv : ValidI (xs ++ ys)) (hl : xs.length ≤ 10000) (hl' : ys.length ≤ 10000) : err2 xs ys = 0 := by
  have h1 : (xs ++ ys).all inR = true := List.all_eq_true.2 fun x hx => (inR_iff x).2 (by have := hv x hx; omega)
  have h2 : (xs ++ ys).all leB = true := List.all_eq_true.2 fun x hx => (leB_iff x).2 (hv x hx).2.1
  unfold err2
  rw [if_neg (by omega), errAll, if_pos h1, if_pos h2]
end Go.Proofs.Ytekjhdpadddkpaa
