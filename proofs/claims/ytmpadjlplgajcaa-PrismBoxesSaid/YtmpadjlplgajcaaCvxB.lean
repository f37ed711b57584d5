/- Once around, told by a count; from a list's numbers. -/
import Derived.Test.YtmpadjlplgajcaaCvxA
namespace Go.Proofs.Ytmpadjlplgajcaa.Cvx
/-! Counts. -/
section
variable {p : Nat → Prop} [DecidablePred p] {c : Nat → Int}
theorem cnt_ge (h0 : c 0 = 0) (hs : ∀ k, c (k + 1) = c k + if p k then 1 else 0) : ∀ n, 0 ≤ c n
  | 0 => by omega
  | n + 1 => by have := cnt_ge h0 hs n; rw [hs]; split <;> omega
theorem cnt_none (h0 : c 0 = 0) (hs : ∀ k, c (k + 1) = c k + if p k then 1 else 0) : ∀ n, (∀ k, k < n → ¬ p k) ↔ c n = 0
  | 0 => ⟨fun _ => h0, fun _ k h => by omega⟩
  | n + 1 => by
    have ih := cnt_none h0 hs n
    have ge := cnt_ge h0 hs n
    rw [hs]
    constructor
    · intro h
      rw [if_neg (h n (by omega)), ih.1 fun k hk => h k (by omega)]; omega
    · intro h
      by_cases q : p n
      · rw [if_pos q] at h; omega
      · rw [if_neg q] at h
        intro k hk
        by_cases e : k = n
        · rw [e]; exact q
        · exact ih.2 (by omega) k (by omega)
theorem cnt_one (h0 : c 0 = 0) (hs : ∀ k, c (k + 1) = c k + if p k then 1 else 0) : ∀ n, (∃ s, s < n ∧ p s ∧ ∀ k, k < n → p k → k = s) ↔ c n = 1
  | 0 => ⟨fun ⟨s, h, _⟩ => by omega, fun h => by omega⟩
  | n + 1 => by
    have ih := cnt_one h0 hs n
    have nn := cnt_none h0 hs n
    rw [hs]
    by_cases q : p n
    · rw [if_pos q]
      constructor
      · rintro ⟨s, h1, h2, h3⟩
        have e := h3 n (by omega) q
        have := nn.1 fun k hk hp => by have := h3 k (by omega) hp; omega
        omega
      · intro h
        have := nn.2 (by omega)
        exact ⟨n, by omega, q, fun k hk hp => by
          by_cases e : k = n
          · exact e
          · exact absurd hp (this k (by omega))⟩
    · rw [if_neg q, Int.add_zero, ← ih]
      constructor
      · rintro ⟨s, h1, h2, h3⟩
        have : s ≠ n := fun e => q (e ▸ h2)
        exact ⟨s, by omega, h2, fun k hk hp => h3 k (by omega) hp⟩
      · rintro ⟨s, h1, h2, h3⟩
        exact ⟨s, by omega, h2, fun k hk hp => h3 k (by have : k ≠ n := fun e => q (e ▸ hp)
                                                        omega) hp⟩
end
section
variable {n : Int} {X Y : Int → Int}
/-- Where the way begins to rise. -/
def Beg (Y : Int → Int) (k : Int) : Prop := df Y (k - 1) ≤ 0 ∧ 0 < df Y k
theorem beg_per (pY : ∀ k, Y (k + n) = Y k) (k : Int) : Beg Y (k + n) ↔ Beg Y k := by
  unfold Beg
  rw [show k + n - 1 = k - 1 + n by omega, df_per pY, df_per pY]
theorem first_not (p : Int → Prop) (s : Int) : ∀ d : Nat, ∃ m, s ≤ m ∧ m ≤ s + d ∧ (∀ k, s ≤ k → k < m → p k) ∧ (m = s + d ∨ ¬ p m)
  | 0 => ⟨s, by omega, by omega, fun k _ _ => by omega, .inl (by omega)⟩
  | d + 1 => by
    obtain ⟨m, h1, h2, h3, h4⟩ := first_not p s d
    rcases h4 with h4 | h4
    · by_cases q : p m
      · exact ⟨m + 1, by omega, by omega, fun k k1 k2 => by
          by_cases e : k = m
          · rw [e]; exact q
          · exact h3 k k1 (by omega), .inl (by omega)⟩
      · exact ⟨m, h1, by omega, h3, .inr q⟩
    · exact ⟨m, h1, by omega, h3, .inr h4⟩
theorem runs_of (n3 : 3 ≤ n) (pX : ∀ k, X (k + n) = X k) (pY : ∀ k, Y (k + n) = Y k) (T : ∀ k, 0 < g X Y k (k + 1)) {s : Int} (s0 : 0 ≤ s) (sn : s < n) (hu : ∀ k, 0 ≤ k → k < n → Beg Y k → k = s) : ∃ m, Runs n X Y s m := by
  obtain ⟨m, h1, h2, h3, h4⟩ := first_not (fun k => 0 < df Y k) s n.toNat
  have hD : ∀ d : Nat, m + d < s + n → df Y (m + d) ≤ 0 := by
    intro d
    induction d with
    | zero =>
      intro hd
      rcases h4 with h4 | h4
      · omega
      · rw [show m + ((0 : Nat) : Int) = m by omega]; exact Int.not_lt.1 h4
    | succ d ih =>
      intro hd
      have i1 := ih (by omega)
      by_cases q : 0 < df Y (m + (d + 1 : Nat))
      · exfalso
        have b : Beg Y (m + (d + 1 : Nat)) := ⟨by rw [show m + ((d + 1 : Nat) : Int) - 1 = m + d by omega]; exact i1, q⟩
        by_cases c : m + ((d + 1 : Nat) : Int) < n
        · have := hu _ (by omega) c b; omega
        · have b2 : Beg Y (m + (d + 1 : Nat) - n) := by
            rw [← beg_per pY, show m + ((d + 1 : Nat) : Int) - n + n = m + (d + 1 : Nat) by omega]; exact b
          have := hu _ (by omega) (by omega) b2
          omega
      · exact Int.not_lt.1 q
  refine ⟨m, n3, pX, pY, T, h1, by omega, h3, fun k k1 k2 => ?_⟩
  have := hD (k - m).toNat (by omega)
  rwa [show m + (((k - m).toNat : Nat) : Int) = k by omega] at this
/-- Every corner but its own lies to the left of each edge. -/
def AllLeft (n : Int) (X Y : Int → Int) : Prop := ∀ i j, 0 ≤ i → i < n → i + 1 < j → j < i + n → 0 < f X Y i j
theorem f_per (pX : ∀ k, X (k + n) = X k) (pY : ∀ k, Y (k + n) = Y k) (i j : Int) : f X Y (i + n) (j + n) = f X Y i j := by
  unfold f
  rw [df_per pX, df_per pY, pX, pX, pY, pY]
theorem Runs.all {s m : Int} (R : Runs n X Y s m) (s0 : 0 ≤ s) (sn : s < n) : AllLeft n X Y := fun i j i0 i1 j0 j1 => by
  by_cases c : s ≤ i
  · exact R.left c (by omega) j0 j1
  · rw [← f_per R.pX R.pY]
    exact R.left (by omega) (by omega) (by omega) (by omega)
/-! The other way around. -/
theorem all_any (pX : ∀ k, X (k + n) = X k) (pY : ∀ k, Y (k + n) = Y k) (A : AllLeft n X Y) {i j : Int} (i0 : -n ≤ i) (i1 : i < n) (j0 : i + 1 < j) (j1 : j < i + n) : 0 < f X Y i j := by
  by_cases c : 0 ≤ i
  · exact A i j c i1 j0 j1
  · rw [← f_per pX pY]
    exact A _ _ (by omega) (by omega) (by omega) (by omega)
theorem f_two (i : Int) : f X Y i (i + 2) = g X Y i (i + 1) := by
  have e := f_succ (X := X) (Y := Y) i (i + 1)
  rw [f_next, show i + 1 + 1 = i + 2 by omega] at e
  omega
theorem all_turn (n3 : 3 ≤ n) (A : AllLeft n X Y) {i : Int} (i0 : 0 ≤ i) (i1 : i < n) : 0 < g X Y i (i + 1) := by
  rw [← f_two]; exact A i (i + 2) i0 i1 (by omega) (by omega)
theorem below {k j : Int} (hb : Beg Y k) (t : 0 < g X Y (k - 1) k) (h1 : 0 < f X Y (k - 1) j) (h2 : 0 < f X Y k j) : Y k < Y j := by
  have e1 : cr (df X (k - 1)) (df Y (k - 1)) (X j - X k) (Y j - Y k) = f X Y (k - 1) j := by
    unfold f cr df
    rw [show k - 1 + 1 = k by omega]; grind
  have id := cr3 (df X (k - 1)) (df Y (k - 1)) (X j - X k) (Y j - Y k) (df X k) (df Y k)
  have e2 : cr (X j - X k) (Y j - Y k) (df X k) (df Y k) = - f X Y k j := cr_neg _ _ _ _
  rw [e1, e2] at id
  have p1 := mpp hb.2 h1
  have p2 := mnn hb.1 (show - f X Y k j ≤ 0 by omega)
  have t' : 0 < cr (df X (k - 1)) (df Y (k - 1)) (df X k) (df Y k) := t
  by_cases q : Y k < Y j
  · exact q
  · have := mnp (show Y j - Y k ≤ 0 by omega) (Int.le_of_lt t'); omega
theorem beg_one (n3 : 3 ≤ n) (pX : ∀ k, X (k + n) = X k) (pY : ∀ k, Y (k + n) = Y k) (A : AllLeft n X Y) {k j : Int} (k0 : 0 ≤ k) (kj : k < j) (jn : j < n) (bk : Beg Y k) (bj : Beg Y j) : False := by
  have any := fun {i j : Int} => all_any (n := n) (i := i) (j := j) pX pY A
  have tk : 0 < g X Y (k - 1) k := by
    have := any (i := k - 1) (j := k - 1 + 2) (by omega) (by omega) (by omega) (by omega)
    rwa [f_two, show k - 1 + 1 = k by omega] at this
  have tj : 0 < g X Y (j - 1) j := by
    have := any (i := j - 1) (j := j - 1 + 2) (by omega) (by omega) (by omega) (by omega)
    rwa [f_two, show j - 1 + 1 = j by omega] at this
  have c1 : k + 1 ≠ j := fun e => by
    have := bj.1
    rw [show j - 1 = k by omega] at this
    have := bk.2; omega
  have c2 : k - 1 + n ≠ j := fun e => by
    have := bj.2
    rw [← e, df_per pY] at this
    have := bk.1; omega
  have a := below (X := X) bk tk (any (i := k - 1) (j := j) (by omega) (by omega) (by omega) (by omega)) (any (i := k) (j := j) (by omega) (by omega) (by omega) (by omega))
  have b := below (X := X) bj tj (any (i := j - 1) (j := k + n) (by omega) (by omega) (by omega) (by omega)) (any (i := j) (j := k + n) (by omega) (by omega) (by omega) (by omega))
  rw [pY] at b
  omega
theorem drop (k0 : Int) (h : ∀ k, k0 ≤ k → df Y k ≤ 0) : ∀ d : Nat, Y (k0 + d) ≤ Y k0
  | 0 => by rw [show k0 + ((0 : Nat) : Int) = k0 by omega]; omega
  | d + 1 => by
    have ih := drop k0 h d
    have e := h (k0 + d) (by omega)
    unfold df at e
    rw [show k0 + ((d + 1 : Nat) : Int) = k0 + d + 1 by omega]
    omega
theorem climb (h : ∀ k, 0 < df Y k) : ∀ d : Nat, Y 0 + d ≤ Y d
  | 0 => by simp
  | d + 1 => by
    have ih := climb h d
    have e := h d
    unfold df at e
    rw [show ((d + 1 : Nat) : Int) = (d : Int) + 1 by omega]
    omega
theorem beg_some (n3 : 3 ≤ n) (pY : ∀ k, Y (k + n) = Y k) (A : AllLeft n X Y) : ∃ k, 0 ≤ k ∧ k < n ∧ Beg Y k := by
  by_cases c : ∃ k, 0 ≤ k ∧ k < n ∧ Beg Y k
  · exact c
  exfalso
  have no : ∀ k, 0 ≤ k → k < n → df Y (k - 1) ≤ 0 → df Y k ≤ 0 := fun k h0 h1 h2 => by
    by_cases q : 0 < df Y k
    · exact absurd ⟨k, h0, h1, h2, q⟩ c
    · exact Int.not_lt.1 q
  have red : ∀ k, df Y k = df Y (k % n) := fun k => by
    have : ∀ (d : Nat) (k : Int), df Y (k + n * d) = df Y k := fun d => by
      induction d with
      | zero => intro k; simp
      | succ d ih => intro k; rw [show k + n * ((d + 1 : Nat) : Int) = k + n * d + n by rw [show ((d + 1 : Nat) : Int) = (d : Int) + 1 by omega, Int.mul_add]; omega, df_per pY, ih]
    have e := Int.emod_add_mul_ediv k n
    by_cases q : 0 ≤ k / n
    · have t := this (k / n).toNat (k % n)
      rw [show (((k / n).toNat : Nat) : Int) = k / n by omega, e] at t
      exact t
    · have t := this (-(k / n)).toNat k
      rw [show (((-(k / n)).toNat : Nat) : Int) = -(k / n) by omega, Int.mul_neg] at t
      rw [← t]; congr 1; omega
  by_cases al : ∀ k, 0 < df Y k
  · have := climb al n.toNat
    have e := pY 0
    rw [show (((n.toNat : Nat)) : Int) = n by omega] at this
    rw [Int.zero_add] at e
    omega
  · obtain ⟨k0, hk⟩ : ∃ k, df Y k ≤ 0 := by
      by_cases q : ∃ k, df Y k ≤ 0
      · exact q
      · exact absurd (fun k => by by_cases z : 0 < df Y k
                                  · exact z
                                  · exact absurd ⟨k, Int.not_lt.1 z⟩ q) al
    have step : ∀ k, df Y k ≤ 0 → df Y (k + 1) ≤ 0 := fun k h => by
      rw [red]
      have b1 := Int.emod_nonneg (k + 1) (show n ≠ 0 by omega)
      have b2 := Int.emod_lt_of_pos (k + 1) (show 0 < n by omega)
      refine no _ b1 b2 ?_
      rw [red]
      have e : ((k + 1) % n - 1) % n = k % n := by
        rw [Int.emod_sub_emod, show k + 1 - 1 = k by omega]
      rw [e, ← red]; exact h
    have on : ∀ d : Nat, df Y (k0 + d) ≤ 0 := fun d => by
      induction d with
      | zero => rw [show k0 + ((0 : Nat) : Int) = k0 by omega]; exact hk
      | succ d ih => rw [show k0 + ((d + 1 : Nat) : Int) = k0 + d + 1 by omega]; exact step _ ih
    have on' : ∀ k, k0 ≤ k → df Y k ≤ 0 := fun k h => by
      have := on (k - k0).toNat
      rwa [show k0 + (((k - k0).toNat : Nat) : Int) = k by omega] at this
    have z : ∀ k, k0 ≤ k → df Y k = 0 := fun k h => by
      have h1 := on' k h
      have h2 := drop (k + 1) (fun j hj => on' j (by omega)) (n - 1).toNat
      rw [show k + 1 + (((n - 1).toNat : Nat) : Int) = k + n by omega, pY] at h2
      unfold df at h1 ⊢
      omega
    have e0 := Int.emod_nonneg k0 (show n ≠ 0 by omega)
    have e1 := Int.emod_lt_of_pos k0 (show 0 < n by omega)
    have t := all_turn n3 A e0 e1
    have z0 : df Y (k0 % n) = 0 := by rw [← red]; exact z k0 (by omega)
    have z1 : df Y (k0 % n + 1) = 0 := by
      rw [red, Int.emod_add_emod, ← red]; exact z (k0 + 1) (by omega)
    rw [g_flat z0, z1] at t
    omega
end
end Go.Proofs.Ytmpadjlplgajcaa.Cvx
