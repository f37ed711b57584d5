/- Fractions in lowest terms are rational numbers: plain mathematics. -/
import Derived.WalkKit
import Derived.Lib.Hide
namespace Go.Proofs.YtinnlahmlepeeaaDoor
abbrev F2 := Int × Int
def validF (f : F2) : Bool := decide (1 ≤ f.2 ∧ f.2 < 1000000000000000000 ∧ -1000000000000000000 < f.1 ∧ f.1 < 1000000000000000000 ∧ Nat.gcd f.1.natAbs f.2.natAbs = 1)
theorem validF_iff (f : F2) : validF f = true ↔ 1 ≤ f.2 ∧ f.2 < 1000000000000000000 ∧ -1000000000000000000 < f.1 ∧ f.1 < 1000000000000000000 ∧ Nat.gcd f.1.natAbs f.2.natAbs = 1 := by
  unfold validF; rw [decide_eq_true_eq]
def toQ (f : F2) : Rat := Rat.divInt f.1 f.2
def ofQ (q : Rat) : F2 := (q.num, (q.den : Int))
def Fits (q : Rat) : Prop := -1000000000000000000 < q.num ∧ q.num < 1000000000000000000 ∧ (q.den : Int) < 1000000000000000000
instance (q : Rat) : Decidable (Fits q) := by unfold Fits; infer_instance
def ratR (q : Rat) : F2 × Int := if Fits q then (ofQ q, 0) else ((0, 0), 6)
theorem lowest_num {n d : Int} (hd : 0 < d) (hc : Nat.gcd n.natAbs d.natAbs = 1) : (Rat.divInt n d).num = n ∧ ((Rat.divInt n d).den : Int) = d := by
  obtain ⟨k, rfl⟩ := Int.eq_ofNat_of_zero_le (Int.le_of_lt hd)
  have hk : k ≠ 0 := by omega
  have e := @Rat.mk_eq_divInt n k hk (by simpa [Nat.Coprime] using hc)
  rw [← e]
  exact ⟨rfl, rfl⟩
theorem ofQ_toQ {f : F2} (h : validF f = true) : ofQ (toQ f) = f := by
  obtain ⟨h1, _, _, _, h5⟩ := (validF_iff f).1 h
  obtain ⟨e1, e2⟩ := lowest_num (n := f.1) (d := f.2) (by omega) h5
  unfold ofQ toQ
  rw [e1, e2]
theorem toQ_ofQ (q : Rat) : toQ (ofQ q) = q := by unfold toQ ofQ; exact Rat.num_divInt_den q
theorem fits_toQ {f : F2} (h : validF f = true) : Fits (toQ f) := by
  have e := ofQ_toQ h
  obtain ⟨h1, h2, h3, h4, h5⟩ := (validF_iff f).1 h
  have e1 : (toQ f).num = f.1 := congrArg Prod.fst e
  have e2 : ((toQ f).den : Int) = f.2 := congrArg Prod.snd e
  unfold Fits
  rw [e1, e2]
  exact ⟨h3, h4, h2⟩
theorem ofQ_valid {q : Rat} (h : Fits q) : validF (ofQ q) = true := by
  rw [validF_iff]
  obtain ⟨h1, h2, h3⟩ := h
  have hd := q.den_nz
  have hr := q.reduced
  refine ⟨?_, h3, h1, h2, ?_⟩
  · show (1 : Int) ≤ (q.den : Int); omega
  · simpa [ofQ, Nat.Coprime] using hr
theorem ratR_toQ {f : F2} (h : validF f = true) : ratR (toQ f) = (f, 0) := by
  unfold ratR
  rw [if_pos (fits_toQ h), ofQ_toQ h]
theorem toQ_inj {f g : F2} (hf : validF f = true) (hg : validF g = true) (h : toQ f = toQ g) : f = g := by
  rw [← ofQ_toQ hf, ← ofQ_toQ hg, h]
theorem ratR_ok {q : Rat} {f : F2} (h : ratR q = (f, 0)) : f = ofQ q ∧ Fits q := by
  unfold ratR at h
  split at h
  · rename_i hf; exact ⟨by cases h; rfl, hf⟩
  · cases h
/-- What is left of a fraction by its common divisor. -/
theorem reduced_of {z y : Int} (hy : 0 < y) {g : Nat} (hg : Nat.gcd z.natAbs y.natAbs = g) : (Rat.divInt z y).num = z / g ∧ ((Rat.divInt z y).den : Int) = y / g := by
  have hy' : 0 < y.natAbs := by omega
  have hg0 : 0 < g := by rw [← hg]; exact Nat.gcd_pos_of_pos_right _ hy'
  have d1 : (g : Int) ∣ z := by rw [← hg]; exact Int.ofNat_dvd_left.2 (Nat.gcd_dvd_left _ _)
  have d2 : (g : Int) ∣ y := by rw [← hg]; exact Int.ofNat_dvd_left.2 (Nat.gcd_dvd_right _ _)
  obtain ⟨a, rfl⟩ := d1
  obtain ⟨b, rfl⟩ := d2
  have hgi : (0 : Int) < g := by omega
  have hb : 0 < b := by
    rcases Int.lt_or_le 0 b with h | h
    · exact h
    · have := Int.mul_nonpos_of_nonneg_of_nonpos (Int.le_of_lt hgi) h; omega
  have e : Rat.divInt (g * a) (g * b) = Rat.divInt a b := by rw [Rat.divInt_eq_divInt_iff (by omega) (by omega)]; rw [Int.mul_comm (g : Int) a, Int.mul_assoc]
  have hc : Nat.gcd a.natAbs b.natAbs = 1 := by
    rw [Int.natAbs_mul, Int.natAbs_mul, Int.natAbs_natCast, Nat.gcd_mul_left] at hg
    have : g * Nat.gcd a.natAbs b.natAbs = g * 1 := by omega
    exact Nat.eq_of_mul_eq_mul_left hg0 this
  rw [e, Int.mul_ediv_cancel_left _ (by omega), Int.mul_ediv_cancel_left _ (by omega)]
  exact lowest_num hb hc
theorem pos_of {a b : Int} (h : 0 < a * b) (ha : 0 < a) : 0 < b := by
  rcases Int.lt_or_le 0 b with h' | h'
  · exact h'
  · have := Int.mul_nonpos_of_nonneg_of_nonpos (Int.le_of_lt ha) h'; omega
theorem cop_add {n1 n2 l r : Int} (a : Nat.gcd n2.natAbs l.natAbs = 1) (b : Nat.gcd r.natAbs l.natAbs = 1) : Nat.gcd (n1 * l + n2 * r).natAbs l.natAbs = 1 := by
  have hk1 := Nat.gcd_dvd_left (n1 * l + n2 * r).natAbs l.natAbs
  have hk2 := Nat.gcd_dvd_right (n1 * l + n2 * r).natAbs l.natAbs
  generalize Nat.gcd (n1 * l + n2 * r).natAbs l.natAbs = k at *
  have i1 : (k : Int) ∣ n1 * l + n2 * r := Int.ofNat_dvd_left.2 hk1
  have i2 : (k : Int) ∣ l := Int.ofNat_dvd_left.2 hk2
  have i3 : (k : Int) ∣ n2 * r := by
    have := Int.dvd_sub i1 (Int.dvd_trans i2 (Int.dvd_mul_left n1 l))
    rwa [show n1 * l + n2 * r - n1 * l = n2 * r by omega] at this
  have i4 : k ∣ n2.natAbs * r.natAbs := by rw [← Int.natAbs_mul]; exact Int.ofNat_dvd_left.1 i3
  have c : Nat.Coprime (n2.natAbs * r.natAbs) l.natAbs := Nat.Coprime.mul_left a b
  exact Nat.eq_one_of_dvd_one (by rw [← c]; exact Nat.dvd_gcd i4 hk2)
theorem cop_of_dvd {a b x : Nat} (h : Nat.gcd a b = 1) (hx : x ∣ a) : Nat.gcd x b = 1 := Nat.Coprime.coprime_dvd_left hx h
theorem cop_of_dvd' {a b x : Nat} (h : Nat.gcd a b = 1) (hx : x ∣ b) : Nat.gcd a x = 1 := Nat.Coprime.coprime_dvd_right hx h
theorem cut_gcd (d1 d2 : Int) (h1 : 0 < d1) (h2 : 0 < d2) {c : Nat} (hc : Nat.gcd d1.natAbs d2.natAbs = c) : 0 < c ∧ ∃ r l : Int, 0 < r ∧ 0 < l ∧ d1 = c * r ∧ d2 = c * l ∧ Nat.gcd r.natAbs l.natAbs = 1 := by
  have hc0 : 0 < c := by rw [← hc]; exact Nat.gcd_pos_of_pos_right _ (by omega)
  obtain ⟨r, hr⟩ : (c : Int) ∣ d1 := by rw [← hc]; exact Int.ofNat_dvd_left.2 (Nat.gcd_dvd_left _ _)
  obtain ⟨l, hl⟩ : (c : Int) ∣ d2 := by rw [← hc]; exact Int.ofNat_dvd_left.2 (Nat.gcd_dvd_right _ _)
  have hci : (0 : Int) < c := by omega
  have hr0 : 0 < r := pos_of (by rw [← hr]; exact h1) hci
  have hl0 : 0 < l := pos_of (by rw [← hl]; exact h2) hci
  refine ⟨hc0, r, l, hr0, hl0, hr, hl, ?_⟩
  subst hr hl
  rw [Int.natAbs_mul, Int.natAbs_mul, Int.natAbs_natCast, Nat.gcd_mul_left] at hc
  exact Nat.eq_of_mul_eq_mul_left hc0 (by omega)
/-- The sum, reduced before it is put together. -/
theorem knuth_add {n1 d1 n2 d2 : Int} (h1 : 0 < d1) (h2 : 0 < d2) (c1 : Nat.gcd n1.natAbs d1.natAbs = 1) (c2 : Nat.gcd n2.natAbs d2.natAbs = 1)
    {c t : Nat} (hc : Nat.gcd d1.natAbs d2.natAbs = c) (ht : Nat.gcd ((n1 * (d2 / c) + n2 * (d1 / c)).natAbs % c) c = t) :
    (Rat.divInt n1 d1 + Rat.divInt n2 d2).num = (n1 * (d2 / c) + n2 * (d1 / c)) / t ∧ ((Rat.divInt n1 d1 + Rat.divInt n2 d2).den : Int) = d1 / c * (d2 / t) ∧
    (t : Int) ∣ (n1 * (d2 / c) + n2 * (d1 / c)) ∧ 0 < t ∧ 0 < c ∧ (t : Int) ∣ d2 ∧ (c : Int) ∣ d1 ∧ (c : Int) ∣ d2 := by
  obtain ⟨hc0, r, l, hr0, hl0, hr, hl, hrl⟩ := cut_gcd d1 d2 h1 h2 hc
  subst hr hl
  have hci : (0 : Int) < c := by omega
  rw [Int.mul_ediv_cancel_left _ (by omega), Int.mul_ediv_cancel_left _ (by omega)] at *
  rw [← Nat.gcd_rec, Nat.gcd_comm] at ht
  have g1 : Nat.gcd n2.natAbs l.natAbs = 1 := cop_of_dvd' c2 (by rw [Int.natAbs_mul]; exact Nat.dvd_mul_left _ _)
  have g2 : Nat.gcd n1.natAbs r.natAbs = 1 := cop_of_dvd' c1 (by rw [Int.natAbs_mul]; exact Nat.dvd_mul_left _ _)
  have k1 := cop_add (n1 := n1) g1 hrl
  have k2 := cop_add (n1 := n2) g2 (by rw [Nat.gcd_comm]; exact hrl)
  rw [Int.add_comm] at k2
  generalize hs : n1 * l + n2 * r = s at *
  have ht0 : 0 < t := by rw [← ht]; exact Nat.gcd_pos_of_pos_right _ hc0
  obtain ⟨m, hm⟩ : (t : Int) ∣ s := by rw [← ht]; exact Int.ofNat_dvd_left.2 (Nat.gcd_dvd_left _ _)
  obtain ⟨u, hu⟩ : t ∣ c := by rw [← ht]; exact Nat.gcd_dvd_right _ _
  have hti : (0 : Int) < t := by omega
  have hu0 : 0 < u := by
    rcases Nat.eq_zero_or_pos u with h | h
    · subst h; omega
    · exact h
  subst hu
  subst hm
  have hmu : Nat.gcd m.natAbs u = 1 := by
    rw [Int.natAbs_mul, Int.natAbs_natCast, Nat.gcd_mul_left] at ht
    exact Nat.eq_of_mul_eq_mul_left ht0 (by omega)
  have km : m.natAbs ∣ (↑t * m).natAbs := by rw [Int.natAbs_mul]; exact Nat.dvd_mul_left _ _
  have k3 := cop_of_dvd k1 km
  have k4 := cop_of_dvd k2 km
  have hcop : Nat.gcd m.natAbs (r * (u * l)).natAbs = 1 := by
    rw [Int.natAbs_mul, Int.natAbs_mul, Int.natAbs_natCast]
    exact Nat.Coprime.mul_right k4 (Nat.Coprime.mul_right hmu k3)
  have hul : (0 : Int) < u * l := Int.mul_pos (by omega) hl0
  have hpos : 0 < r * (u * l) := Int.mul_pos hr0 hul
  have e2 : (((t * u : Nat) : Int) * l) / t = u * l := by rw [Int.natCast_mul, Int.mul_assoc, Int.mul_ediv_cancel_left _ (by omega)]
  have e3 : Rat.divInt n1 (((t * u : Nat) : Int) * r) + Rat.divInt n2 (((t * u : Nat) : Int) * l) = Rat.divInt m (r * (u * l)) := by
    rw [Rat.divInt_add_divInt _ _ (by omega) (by omega), Rat.divInt_eq_divInt_iff ?_ (by omega)]
    · rw [Int.natCast_mul]
      have hs' : n1 * l + n2 * r = t * m := hs
      have : (n1 * (↑t * ↑u * l) + n2 * (↑t * ↑u * r)) * (r * (↑u * l)) = (n1 * l + n2 * r) * (↑t * ↑u * (r * (↑u * l))) := by grind
      rw [this, hs']
      grind
    · exact Int.ne_of_gt (Int.mul_pos h1 h2)
  rw [e3, e2, Int.mul_ediv_cancel_left _ (by omega)]
  obtain ⟨f1, f2⟩ := lowest_num hpos hcop
  exact ⟨f1, f2, Int.dvd_mul_right _ _, ht0, hc0, ⟨u * l, by rw [Int.natCast_mul, Int.mul_assoc]⟩, Int.dvd_mul_right _ _, Int.dvd_mul_right _ _⟩
/-- The product, reduced crosswise ahead. -/
theorem knuth_mul {n1 d1 n2 d2 : Int} (h1 : 0 < d1) (h2 : 0 < d2) (c1 : Nat.gcd n1.natAbs d1.natAbs = 1) (c2 : Nat.gcd n2.natAbs d2.natAbs = 1)
    {s t : Nat} (hs : Nat.gcd n1.natAbs d2.natAbs = s) (ht : Nat.gcd n2.natAbs d1.natAbs = t) :
    (Rat.divInt n1 d1 * Rat.divInt n2 d2).num = n1.tdiv s * n2.tdiv t ∧ ((Rat.divInt n1 d1 * Rat.divInt n2 d2).den : Int) = d1.tdiv t * d2.tdiv s ∧ 0 < s ∧ 0 < t := by
  have hs0 : 0 < s := by rw [← hs]; exact Nat.gcd_pos_of_pos_right _ (by omega)
  have ht0 : 0 < t := by rw [← ht]; exact Nat.gcd_pos_of_pos_right _ (by omega)
  obtain ⟨a, ha⟩ : (s : Int) ∣ n1 := by rw [← hs]; exact Int.ofNat_dvd_left.2 (Nat.gcd_dvd_left _ _)
  obtain ⟨b, hb⟩ : (s : Int) ∣ d2 := by rw [← hs]; exact Int.ofNat_dvd_left.2 (Nat.gcd_dvd_right _ _)
  obtain ⟨x, hx⟩ : (t : Int) ∣ n2 := by rw [← ht]; exact Int.ofNat_dvd_left.2 (Nat.gcd_dvd_left _ _)
  obtain ⟨y, hy⟩ : (t : Int) ∣ d1 := by rw [← ht]; exact Int.ofNat_dvd_left.2 (Nat.gcd_dvd_right _ _)
  have hsi : (0 : Int) < s := by omega
  have hti : (0 : Int) < t := by omega
  subst ha hb hx hy
  have hb0 : 0 < b := pos_of h2 hsi
  have hy0 : 0 < y := pos_of h1 hti
  have m1 : Nat.gcd a.natAbs b.natAbs = 1 := by
    rw [Int.natAbs_mul, Int.natAbs_mul, Int.natAbs_natCast, Nat.gcd_mul_left] at hs
    exact Nat.eq_of_mul_eq_mul_left hs0 (by omega)
  have m2 : Nat.gcd x.natAbs y.natAbs = 1 := by
    rw [Int.natAbs_mul, Int.natAbs_mul, Int.natAbs_natCast, Nat.gcd_mul_left] at ht
    exact Nat.eq_of_mul_eq_mul_left ht0 (by omega)
  have m3 : Nat.gcd a.natAbs y.natAbs = 1 := cop_of_dvd (cop_of_dvd' c1 (by rw [Int.natAbs_mul]; exact Nat.dvd_mul_left _ _)) (by rw [Int.natAbs_mul]; exact Nat.dvd_mul_left _ _)
  have m4 : Nat.gcd x.natAbs b.natAbs = 1 := cop_of_dvd (cop_of_dvd' c2 (by rw [Int.natAbs_mul]; exact Nat.dvd_mul_left _ _)) (by rw [Int.natAbs_mul]; exact Nat.dvd_mul_left _ _)
  have hcop : Nat.gcd (a * x).natAbs (y * b).natAbs = 1 := by
    rw [Int.natAbs_mul, Int.natAbs_mul]
    exact Nat.Coprime.mul_left (Nat.Coprime.mul_right m3 m1) (Nat.Coprime.mul_right m2 m4)
  have e3 : Rat.divInt (s * a) (t * y) * Rat.divInt (t * x) (s * b) = Rat.divInt (a * x) (y * b) := by
    rw [Rat.divInt_mul_divInt, Rat.divInt_eq_divInt_iff]
    · grind
    · exact Int.ne_of_gt (Int.mul_pos h1 h2)
    · exact Int.ne_of_gt (Int.mul_pos hy0 hb0)
  rw [e3, Int.mul_tdiv_cancel_left _ (by omega), Int.mul_tdiv_cancel_left _ (by omega), Int.mul_tdiv_cancel_left _ (by omega), Int.mul_tdiv_cancel_left _ (by omega)]
  obtain ⟨f1, f2⟩ := lowest_num (Int.mul_pos hy0 hb0) hcop
  exact ⟨f1, f2, hs0, ht0⟩
end Go.Proofs.YtinnlahmlepeeaaDoor
