/- A base goes around once to the left exactly if every corner but its own lies to the left of each edge. -/
import Derived.Test.YtmpadjlplgajcaaPriH
import Derived.Test.YtmpadjlplgajcaaCvxB
namespace Go.Proofs.Ytmpadjlplgajcaa
open Go.RowKit
section
variable {S : S0}
/-- Behind the last corner the first one comes again. -/
def prX (S : S0) (k : Int) : Int := S.X (k % S.n)
def prY (S : S0) (k : Int) : Int := S.Y (k % S.n)
theorem pr_mod {a b : Int} (h : a % S.n = b % S.n) : prX S a = prX S b ∧ prY S a = prY S b := by
  unfold prX prY; rw [h]; exact ⟨rfl, rfl⟩
theorem pr_per (k : Int) : prX S (k + S.n) = prX S k ∧ prY S (k + S.n) = prY S k := pr_mod (by rw [Int.add_emod_right])
theorem pr_in {k : Int} (h0 : 0 ≤ k) (h1 : k < S.n) : prX S k = S.X k ∧ prY S k = S.Y k := by
  unfold prX prY; rw [Int.emod_eq_of_lt h0 h1]; exact ⟨rfl, rfl⟩
theorem pr_nx {k : Int} (h0 : 0 ≤ k) : prX S (k + 1) = S.X (S.nx k) ∧ prY S (k + 1) = S.Y (S.nx k) := by
  unfold prX prY S0.nx; rw [Int.tmod_eq_emod_of_nonneg (by omega)]; exact ⟨rfl, rfl⟩
theorem nx_cases {i : Int} (h0 : 0 ≤ i) (h1 : i < S.n) : (i + 1 < S.n ∧ S.nx i = i + 1) ∨ (i + 1 = S.n ∧ S.nx i = 0) := by
  by_cases c : i + 1 < S.n
  · exact .inl ⟨c, Int.tmod_eq_of_lt (by omega) c⟩
  · have e : i + 1 = S.n := by omega
    exact .inr ⟨e, by unfold S0.nx; rw [e, Int.tmod_self]⟩
theorem bf_pr {k : Int} (h0 : 0 ≤ k) (h1 : k < S.n) : (S.bf k 0 = prX S (k - 1) ∧ S.bf k 1 = prY S (k - 1)) ∧ S.bf k 2 = prX S k ∧ S.bf k 3 = prY S k := by
  obtain ⟨c1, c2⟩ := bf_cur (S := S) h0 h1
  obtain ⟨p1, p2⟩ := pr_in (S := S) h0 h1
  refine ⟨?_, c1.trans p1.symm, c2.trans p2.symm⟩
  by_cases e : k ≤ 0
  · have e0 : k = 0 := by omega
    subst e0
    obtain ⟨q1, q2⟩ := pr_per (S := S) (-1)
    obtain ⟨r1, r2⟩ := pr_in (S := S) (k := -1 + S.n) (by omega) (by omega)
    rw [show (0 : Int) - 1 = -1 by omega, ← q1, ← q2, r1, r2, show -1 + S.n = S.n - 1 by omega]
    exact ⟨rfl, rfl⟩
  · obtain ⟨r1, r2⟩ := pr_in (S := S) (k := k - 1) (by omega) (by omega)
    rw [r1, r2]
    unfold S0.bf
    simp [e]
theorem tn_g {k : Int} (h0 : 0 ≤ k) (h1 : k < S.n) : S.tn k = Cvx.g (prX S) (prY S) (k - 1) k := by
  obtain ⟨⟨a, b⟩, c, d⟩ := bf_pr (S := S) h0 h1
  obtain ⟨e, f⟩ := pr_nx (S := S) h0
  unfold S0.tn Cvx.g Cvx.cr Cvx.df crs
  rw [a, b, c, d, ← e, ← f, show k - 1 + 1 = k by omega]
  grind
theorem g_mod {a b c d : Int} (h : a % S.n = b % S.n) (h2 : c % S.n = d % S.n) : Cvx.g (prX S) (prY S) a c = Cvx.g (prX S) (prY S) b d := by
  have s : ∀ {x y : Int}, x % S.n = y % S.n → (x + 1) % S.n = (y + 1) % S.n := fun {x y} e => by
    rw [← Int.emod_add_emod x, e, Int.emod_add_emod]
  unfold Cvx.g Cvx.df
  rw [(pr_mod h).1, (pr_mod h).2, (pr_mod h2).1, (pr_mod h2).2, (pr_mod (s h)).1, (pr_mod (s h)).2, (pr_mod (s h2)).1, (pr_mod (s h2)).2]
/-- Where the count goes up. -/
def Bg (S : S0) (k : Nat) : Prop := ¬ S.bf k 1 < S.bf k 3 ∧ S.Y k < S.Y (S.nx k)
instance (k : Nat) : Decidable (Bg S k) := by unfold Bg; infer_instance
theorem rc_cnt (k : Nat) : S.rc (k + 1) = S.rc k + if Bg S k then 1 else 0 := by
  simp only [S0.rc, Bg]
  by_cases c1 : S.bf k 1 < S.bf k 3
  · simp [c1]
  · by_cases c2 : S.Y k < S.Y (S.nx k) <;> simp [c1, c2]
theorem bg_beg {k : Nat} (h1 : (k : Int) < S.n) : Bg S k ↔ Cvx.Beg (prY S) k := by
  obtain ⟨⟨_, b⟩, _, d⟩ := bf_pr (S := S) (k := k) (by omega) h1
  obtain ⟨_, f⟩ := pr_nx (S := S) (k := k) (by omega)
  obtain ⟨_, p⟩ := pr_in (S := S) (k := k) (by omega) h1
  unfold Bg Cvx.Beg Cvx.df
  rw [b, d, ← f, ← p, show (k : Int) - 1 + 1 = k by omega]
  omega
def AL (S : S0) : Prop := Cvx.AllLeft S.n (prX S) (prY S)
theorem cv_al (n3 : 3 ≤ S.n) : Cv S ↔ AL S := by
  have pX : ∀ k, prX S (k + S.n) = prX S k := fun k => (pr_per k).1
  have pY : ∀ k, prY S (k + S.n) = prY S k := fun k => (pr_per k).2
  have key := Cvx.cnt_one (p := Bg S) (c := S.rc) rfl rc_cnt S.n.toNat
  constructor
  · rintro ⟨ht, hr⟩
    have T : ∀ k, 0 < Cvx.g (prX S) (prY S) k (k + 1) := fun k => by
      have b1 := Int.emod_nonneg (k + 1) (show S.n ≠ 0 by omega)
      have b2 := Int.emod_lt_of_pos (k + 1) (show 0 < S.n by omega)
      have t := ht _ b1 b2
      rw [tn_g b1 b2] at t
      rwa [g_mod (a := (k + 1) % S.n - 1) (b := k) (c := (k + 1) % S.n) (d := k + 1) (by rw [Int.emod_sub_emod, show k + 1 - 1 = k by omega]) (by rw [Int.emod_emod])] at t
    obtain ⟨s, s1, s2, s3⟩ := key.2 hr
    obtain ⟨m, R⟩ := Cvx.runs_of n3 pX pY T (s := s) (by omega) (by omega) fun k k0 k1 hb => by
      have := s3 k.toNat (by omega) ((bg_beg (by omega)).2 (by rwa [show ((k.toNat : Nat) : Int) = k by omega]))
      omega
    exact R.all (by omega) (by omega)
  · intro A
    refine ⟨fun j j0 j1 => ?_, ?_⟩
    · rw [tn_g j0 j1]
      have := Cvx.all_any pX pY A (i := j - 1) (j := j - 1 + 2) (by omega) (by omega) (by omega) (by omega)
      rwa [Cvx.f_two, show j - 1 + 1 = j by omega] at this
    · refine key.1 ?_
      obtain ⟨s, s0, s1, s2⟩ := Cvx.beg_some n3 pY A
      have bs : Bg S s.toNat := (bg_beg (by omega)).2 (by rwa [show ((s.toNat : Nat) : Int) = s by omega])
      refine ⟨s.toNat, by omega, bs, fun k hk hb => ?_⟩
      have bk := (bg_beg (by omega)).1 hb
      have bs' : Cvx.Beg (prY S) s := s2
      by_cases e : k = s.toNat
      · exact e
      · exfalso
        by_cases c : (k : Int) < s
        · exact Cvx.beg_one n3 pX pY A (k := k) (j := s) (by omega) c s1 bk bs'
        · exact Cvx.beg_one n3 pX pY A (k := s) (j := k) s0 (by omega) (by omega) bs' bk
/-- What the reference looks at in row i, column l. -/
def Ok2 (S : S0) (i l : Int) : Prop := l = i ∨ l = S.nx i ∨ 0 < crs (S.X i) (S.Y i) (S.X (S.nx i)) (S.Y (S.nx i)) (S.X l) (S.Y l)
theorem f_crs {i j l : Int} (i0 : 0 ≤ i) (i1 : i < S.n) (hl : prX S j = S.X l ∧ prY S j = S.Y l) : Cvx.f (prX S) (prY S) i j = crs (S.X i) (S.Y i) (S.X (S.nx i)) (S.Y (S.nx i)) (S.X l) (S.Y l) := by
  unfold Cvx.f Cvx.cr Cvx.df crs
  rw [hl.1, hl.2, (pr_nx i0).1, (pr_nx i0).2, (pr_in i0 i1).1, (pr_in i0 i1).2]
theorem al_rows : AL S ↔ ∀ i, 0 ≤ i → i < S.n → ∀ l, 0 ≤ l → l < S.n → Ok2 S i l := by
  constructor
  · intro A i i0 i1 l l0 l1
    have hn := nx_cases i0 i1
    by_cases e1 : l = i
    · exact .inl e1
    by_cases e2 : l = S.nx i
    · exact .inr (.inl e2)
    refine .inr (.inr ?_)
    by_cases c : i < l
    · rw [← f_crs i0 i1 (pr_in l0 l1)]
      exact A i l i0 i1 (by omega) (by omega)
    · rw [← f_crs i0 i1 (j := l + S.n) ⟨(pr_per l).1.trans (pr_in l0 l1).1, (pr_per l).2.trans (pr_in l0 l1).2⟩]
      exact A i (l + S.n) i0 i1 (by omega) (by omega)
  · intro h i j i0 i1 j0 j1
    have hn := nx_cases i0 i1
    by_cases c : j < S.n
    · rw [f_crs i0 i1 (pr_in (by omega) c)]
      rcases h i i0 i1 j (by omega) c with q | q | q
      · omega
      · omega
      · exact q
    · have p := pr_per (S := S) (j - S.n)
      rw [show j - S.n + S.n = j by omega] at p
      have r := pr_in (S := S) (k := j - S.n) (by omega) (by omega)
      rw [f_crs i0 i1 (l := j - S.n) ⟨p.1.trans r.1, p.2.trans r.2⟩]
      rcases h i i0 i1 (j - S.n) (by omega) (by omega) with q | q | q
      · omega
      · omega
      · exact q
end
end Go.Proofs.Ytmpadjlplgajcaa
