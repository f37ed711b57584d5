/- Contracts: New. -/
import Derived.Test.YtinnlahmlepeeaaDoorFraD
namespace Go.Proofs.YtinnlahmlepeeaaDoor
open Go.RowKit
theorem OwnC.set {w : World} {g k b : Nat} {v : Value} {cs : Array Value} (hne : g ≠ b) (h : OwnC w b cs) : OwnC (w.setCell ⟨g, k, none⟩ v) b cs := by
  have e : ∀ j, (w.setCell ⟨g, k, none⟩ v).cell? ⟨b, j, none⟩ = w.cell? ⟨b, j, none⟩ := fun j => World.cell?_setCell_other w _ _ _ (fun e => hne (by first | exact congrArg Addr.block e | exact (congrArg Addr.block e).symm))
  exact ⟨fun j u hu => (e j).trans (h.1 j u hu), fun j hj => (World.frozen?_setCell w _ _ v).trans (h.2.1 j (fun e' => hj ((e j).trans e'))), by have := h.2.2; simpa using this⟩
theorem OwnC.put2 {w : World} {b : Nat} {x y x' y' : Value} (h : OwnC w b #[x, y]) : OwnC ((w.setCell ⟨b, 0, none⟩ x').setCell ⟨b, 1, none⟩ y') b #[x', y'] := by
  have t := h.two
  have e : (⟨b, 1, none⟩ : Addr) ≠ ⟨b, 0, none⟩ := fun e => by injection e with _ e; omega
  have h1 : (w.setCell ⟨b, 0, none⟩ x').cell? ⟨b, 1, none⟩ = some y := (World.cell?_setCell_other w _ _ _ (Ne.symm e)).trans t.1.2
  have c0 : ((w.setCell ⟨b, 0, none⟩ x').setCell ⟨b, 1, none⟩ y').cell? ⟨b, 0, none⟩ = some x' := (World.cell?_setCell_other _ _ _ _ e).trans (World.cell?_setCell_same w _ _ t.1.1)
  have c1 : ((w.setCell ⟨b, 0, none⟩ x').setCell ⟨b, 1, none⟩ y').cell? ⟨b, 1, none⟩ = some y' := World.cell?_setCell_same _ _ _ h1
  refine ⟨fun k v hk => ?_, fun k hk => ?_, by have := h.2.2; simpa using this⟩
  · rcases k with _ | _ | k
    · cases hk; exact c0
    · cases hk; exact c1
    · simp at hk
  · rw [World.frozen?_setCell, World.frozen?_setCell]
    rcases k with _ | _ | k
    · exact t.2.1.1
    · exact t.2.1.2
    · refine h.2.1 _ (fun e' => hk ?_)
      rw [World.cell?_setCell_other _ _ _ _ (fun e => by injection e with _ e; omega), World.cell?_setCell_other _ _ _ _ (fun e => by injection e with _ e; omega)]
      exact e'
def bndR (n d : Int) : F2 × Int := if (-1000000000000000000 < n ∧ n < 1000000000000000000) ∧ (-1000000000000000000 < d ∧ d < 1000000000000000000) then ((n, d), 0) else ((0, 0), 6)
def Strict (z : Int) : Prop := -170141183460469231731687303715884105728 < z ∧ z < 170141183460469231731687303715884105728
theorem Strict.in127 {z : Int} (h : Strict z) : In127 z := ⟨by have := h.1; omega, h.2⟩
theorem bnd_any (n d : Int) (hn : Strict n) (hd : Strict d) (w : World) : Calls Tryd.prog 44 #[.agg #[.int .u64 (whi n), .int .u64 (wlo n)], .agg #[.int .u64 (whi d), .int .u64 (wlo d)]] w fun e w' =>
    e = .returned (.tuple #[.agg #[.int .i64 (bndR n d).1.1, .int .i64 (bndR n d).1.2], .int .i64 (bndR n d).2]) ∧ Below w.heap.size w w' := by
  have h := bounded_any n d hn.in127 hn.1 hd.in127 hd.1 w
  unfold bndR
  by_cases hc : (-1000000000000000000 < n ∧ n < 1000000000000000000) ∧ (-1000000000000000000 < d ∧ d < 1000000000000000000)
  · rw [if_pos hc, if_pos hc] at h; rw [if_pos hc]; exact h
  · rw [if_neg hc, if_neg hc] at h; rw [if_neg hc]; exact h
theorem bnd_of {q : Rat} {n d : Int} (h1 : q.num = n) (h2 : (q.den : Int) = d) : bndR n d = ratR q := by
  subst h1
  subst h2
  unfold bndR ratR ofQ
  have := q.den_nz
  by_cases hc : (-1000000000000000000 < q.num ∧ q.num < 1000000000000000000) ∧ (-1000000000000000000 < (q.den : Int) ∧ (q.den : Int) < 1000000000000000000)
  · rw [if_pos hc, if_pos (show Fits q from ⟨hc.1.1, hc.1.2, hc.2.2⟩)]
  · rw [if_neg hc, if_neg (fun e : Fits q => hc ⟨⟨e.1, e.2.1⟩, by omega, e.2.2⟩)]
theorem strict_of {g k : Int} (hg : 0 < g) (h : Strict (g * k)) : Strict k := by
  obtain ⟨h1, h2⟩ := h
  have h3 : k.natAbs ≤ (g * k).natAbs := by
    rw [Int.natAbs_mul]
    exact Nat.le_mul_of_pos_left _ (by omega)
  unfold Strict
  omega
theorem strict_neg {z : Int} (h : Strict z) : Strict (-z) := by obtain ⟨a, b⟩ := h; unfold Strict; omega
def newR (n d : Int) : F2 × Int := if d = 0 then ((0, 0), 1) else ratR (Rat.divInt n d)
/-- New's two ways: the signs are turned where the denominator is negative. -/
theorem new_of {n d : Int} (hd : d ≠ 0) {g : Nat} (hg : Nat.gcd n.natAbs d.natAbs = g) :
    0 < g ∧ (g : Int) ∣ n ∧ (g : Int) ∣ d ∧ (d / g < 0 → bndR (-(n / g)) (-(d / g)) = newR n d) ∧ (¬ d / g < 0 → bndR (n / g) (d / g) = newR n d) := by
  have hg0 : 0 < g := by rw [← hg]; exact Nat.gcd_pos_of_pos_right _ (by omega)
  have d1 : (g : Int) ∣ n := by rw [← hg]; exact Int.ofNat_dvd_left.2 (Nat.gcd_dvd_left _ _)
  have d2 : (g : Int) ∣ d := by rw [← hg]; exact Int.ofNat_dvd_left.2 (Nat.gcd_dvd_right _ _)
  have hgi : (0 : Int) < g := by omega
  refine ⟨hg0, d1, d2, fun h => ?_, fun h => ?_⟩
  · have hneg : d < 0 := by
      rcases Int.lt_or_le d 0 with h' | h'
      · exact h'
      · have := Int.ediv_nonneg h' (Int.le_of_lt hgi); omega
    obtain ⟨e1, e2⟩ := reduced_of (z := -n) (y := -d) (by omega) (g := g) (by rw [Int.natAbs_neg, Int.natAbs_neg]; exact hg)
    unfold newR
    rw [if_neg hd, show Rat.divInt n d = Rat.divInt (-n) (-d) by rw [Rat.divInt_eq_divInt_iff hd (by omega), Int.mul_neg, Int.neg_mul]]
    rw [Int.neg_ediv_of_dvd d1] at e1
    rw [Int.neg_ediv_of_dvd d2] at e2
    exact bnd_of e1 e2
  · have hpos : 0 < d := by
      rcases Int.lt_or_le 0 d with h' | h'
      · exact h'
      · exfalso
        obtain ⟨k, rfl⟩ := d2
        rw [Int.mul_ediv_cancel_left _ (by omega)] at h
        have hk : k ≠ 0 := fun e => hd (by rw [e, Int.mul_zero])
        have := Int.mul_pos hgi (show (0 : Int) < k by omega)
        omega
    obtain ⟨e1, e2⟩ := reduced_of (z := n) (y := d) hpos (g := g) hg
    unfold newR
    rw [if_neg hd]
    exact bnd_of e1 e2
set_option maxHeartbeats 4000000 in
theorem new_any (num den : Int) (h1 : In64 num) (h2 : In64 den) (w : World) : Calls Tryd.prog 11 #[.int .i64 num, .int .i64 den] w fun e w' =>
    e = .returned (.tuple #[.agg #[.int .i64 (newR num den).1.1, .int .i64 (newR num den).1.2], .int .i64 (newR num den).2]) ∧ Below w.heap.size w w' := by
  by_cases hd : den = 0
  · have e0 : newR num den = ((0, 0), 1) := by unfold newR; rw [if_pos hd]
    rw [e0]
    have d0 : (den == 0) = true := by simpa using hd
    clear hd e0
    go_enter Tryd.func11, Tryd.ntmps11
    go_wp2_with fail
    refine bodyPost_ret (v := .tuple #[.agg #[.int .i64 0, .int .i64 0], .int .i64 1]) ?_ rfl ⟨rfl, ?_⟩
    · simp [results, Tryd.results11, go_sem, go_sem]
    · have hBB := (bnew (Below.refl _ w) (.cells #[.int .i64 0, .int .i64 0] 23))
      repeat' first | (with_reducible assumption) | (with_reducible exact Nat.le_refl _) | (with_reducible refine setB ?_ ?_) | (with_reducible refine Below.drew ?_) | (with_reducible refine bnew ?_ _) | omega
  · have d0 : (den == 0) = false := by simpa using hd
    obtain ⟨g, hg⟩ : ∃ g, Nat.gcd num.natAbs den.natAbs = g := ⟨_, rfl⟩
    obtain ⟨g0, g1, g2, k1, k2⟩ := new_of hd hg
    have gle : g ≤ 9223372036854775808 := by rw [← hg]; exact Nat.le_trans (Nat.gcd_le_right _ (by omega)) (by obtain ⟨a, b⟩ := h2; omega)
    have s1 : Strict num := by obtain ⟨a, b⟩ := h1; unfold Strict; omega
    have s2 : Strict den := by obtain ⟨a, b⟩ := h2; unfold Strict; omega
    have q1 : Strict (num / g) := by
      obtain ⟨k, rfl⟩ := g1
      rw [Int.mul_ediv_cancel_left _ (by omega)]
      exact strict_of (by omega) s1
    have q2 : Strict (den / g) := by
      obtain ⟨k, rfl⟩ := g2
      rw [Int.mul_ediv_cancel_left _ (by omega)]
      exact strict_of (by omega) s2
    have CG : Hid (∀ w, Calls Tryd.prog 39 #[.int .i64 num, .int .i64 den] w fun e w' => e = .returned (.int .u64 (g : Int)) ∧ Below w.heap.size w w') := Lib.hid fun w => by have := divisor_any num den h1 h2 w; rwa [hg] at this
    have P1 : Hid (∀ w, Calls Tryd.prog 40 #[.int .i64 num, .int .i64 1] w fun e w' => e = .returned (.agg #[.int .u64 (whi num), .int .u64 (wlo num)]) ∧ Below w.heap.size w w') := Lib.hid fun w => by have := product_any num 1 h1 ⟨by omega, by omega⟩ w; rwa [Int.mul_one] at this
    have P2 : Hid (∀ w, Calls Tryd.prog 40 #[.int .i64 den, .int .i64 1] w fun e w' => e = .returned (.agg #[.int .u64 (whi den), .int .u64 (wlo den)]) ∧ Below w.heap.size w w') := Lib.hid fun w => by have := product_any den 1 h2 ⟨by omega, by omega⟩ w; rwa [Int.mul_one] at this
    have V1 : Hid (∀ w, Calls Tryd.prog 41 #[.agg #[.int .u64 (whi num), .int .u64 (wlo num)], .int .u64 (g : Int)] w fun e w' => e = .returned (.agg #[.int .u64 (whi (num / g)), .int .u64 (wlo (num / g))]) ∧ Below w.heap.size w w') := Lib.hid fun w => over_of num g s1.in127 s1.1 (by omega) g1 (divAt_low (by omega) (by obtain ⟨a, b⟩ := h1; omega) (by omega) (by omega)) w
    have V2 : Hid (∀ w, Calls Tryd.prog 41 #[.agg #[.int .u64 (whi den), .int .u64 (wlo den)], .int .u64 (g : Int)] w fun e w' => e = .returned (.agg #[.int .u64 (whi (den / g)), .int .u64 (wlo (den / g))]) ∧ Below w.heap.size w w') := Lib.hid fun w => over_of den g s2.in127 s2.1 (by omega) g2 (divAt_low (by omega) (by obtain ⟨a, b⟩ := h2; omega) (by omega) (by omega)) w
    have CN : Hid (∀ w, Calls Tryd.prog 42 #[.agg #[.int .u64 (whi (den / g)), .int .u64 (wlo (den / g))]] w fun e w' => e = .returned (.bool (decide (den / g < 0))) ∧ Below w.heap.size w w') := Lib.hid fun w => negative_any _ q2.in127 w
    have N1 : Hid (∀ w, Calls Tryd.prog 43 #[.agg #[.int .u64 (whi (num / g)), .int .u64 (wlo (num / g))]] w fun e w' => e = .returned (.agg #[.int .u64 (whi (-(num / g))), .int .u64 (wlo (-(num / g)))]) ∧ Below w.heap.size w w') := Lib.hid fun w => wnegated_any _ w
    have N2 : Hid (∀ w, Calls Tryd.prog 43 #[.agg #[.int .u64 (whi (den / g)), .int .u64 (wlo (den / g))]] w fun e w' => e = .returned (.agg #[.int .u64 (whi (-(den / g))), .int .u64 (wlo (-(den / g)))]) ∧ Below w.heap.size w w') := Lib.hid fun w => wnegated_any _ w
    have B1 : Hid (den / g < 0 → ∀ w, Calls Tryd.prog 44 #[.agg #[.int .u64 (whi (-(num / g))), .int .u64 (wlo (-(num / g)))], .agg #[.int .u64 (whi (-(den / g))), .int .u64 (wlo (-(den / g)))]] w fun e w' => e = .returned (.tuple #[.agg #[.int .i64 (newR num den).1.1, .int .i64 (newR num den).1.2], .int .i64 (newR num den).2]) ∧ Below w.heap.size w w') := Lib.hid fun h w => by have := bnd_any _ _ (strict_neg q1) (strict_neg q2) w; rwa [k1 h] at this
    have B2 : Hid (¬ den / g < 0 → ∀ w, Calls Tryd.prog 44 #[.agg #[.int .u64 (whi (num / g)), .int .u64 (wlo (num / g))], .agg #[.int .u64 (whi (den / g)), .int .u64 (wlo (den / g))]] w fun e w' => e = .returned (.tuple #[.agg #[.int .i64 (newR num den).1.1, .int .i64 (newR num den).1.2], .int .i64 (newR num den).2]) ∧ Below w.heap.size w w') := Lib.hid fun h w => by have := bnd_any _ _ q1 q2 w; rwa [k2 h] at this
    generalize newR num den = r at *
    clear k1 k2 q1 q2 s1 s2 g1 g2 gle hg hd h1 h2
    generalize num / (g : Int) = n at *
    generalize den / (g : Int) = d at *
    generalize (g : Int) = gi at *
    by_cases hneg : d < 0
    · have BB := Lib.hid (B1.out hneg)
      rw [show decide (d < 0) = true by simpa using hneg] at CN
      clear hneg B1 B2
      generalize whi (-n) = m1 at *
      generalize wlo (-n) = m2 at *
      generalize whi (-d) = v1 at *
      generalize wlo (-d) = v2 at *
      generalize whi num = x1 at *
      generalize wlo num = x2 at *
      generalize whi den = y1 at *
      generalize wlo den = y2 at *
      generalize whi n = z1 at *
      generalize wlo n = z2 at *
      generalize whi d = u1 at *
      generalize wlo d = u2 at *
      go_enter Tryd.func11, Tryd.ntmps11
      go_wp2_with fail
      (with_reducible refine (CG.out _).mono ?_)
      rintro e w1 ⟨rfl, hb⟩
      have H2 := Lib.hid ((OwnC.new w #[.int .i64 0, .int .i64 0] 23).below hb)
      have hb3 := bcall (bnew (Below.refl _ w) (.cells #[.int .i64 0, .int .i64 0] 23)) hb
      clear hb
      go_wp2_with fail
      (with_reducible refine (P1.out _).mono ?_)
      rintro e w4 ⟨rfl, hb⟩
      have H5 := Lib.hid ((H2.out).below hb)
      have hb6 := bcall hb3 hb
      clear hb hb3 H2
      go_wp2_with fail
      (with_reducible refine (V1.out _).mono ?_)
      rintro e w7 ⟨rfl, hb⟩
      have H8 := Lib.hid ((H5.out).below hb)
      have hb9 := bcall hb6 hb
      clear hb hb6 H5
      go_wp2_with fail
      (with_reducible refine (P2.out _).mono ?_)
      rintro e w10 ⟨rfl, hb⟩
      have H11 := Lib.hid ((H8.out).below hb)
      have hb12 := bcall hb9 hb
      clear hb hb9 H8
      go_wp2_with fail
      (with_reducible refine (V2.out _).mono ?_)
      rintro e w13 ⟨rfl, hb⟩
      have H14 := Lib.hid ((H11.out).below hb)
      have hb15 := bcall hb12 hb
      clear hb hb12 H11
      go_wp2_with fail
      have hlt := H14.out.2.2
      (with_reducible refine (CN.out _).mono ?_)
      rintro e w16 ⟨rfl, hb⟩
      have H17 := Lib.hid ((((H14.out).old (.cells #[.int .u64 z1, .int .u64 z2] 48)).old (.cells #[.int .u64 u1, .int .u64 u2] 48)).below hb)
      have H18 := Lib.hid (((OwnC.new w13 #[.int .u64 z1, .int .u64 z2] 48).old (.cells #[.int .u64 u1, .int .u64 u2] 48)).below hb)
      have H19 := Lib.hid ((OwnC.new2 w13 (.cells #[.int .u64 z1, .int .u64 z2] 48) #[.int .u64 u1, .int .u64 u2] 48).below hb)
      have hb20 := bcall (bnew (bnew hb15 (.cells #[.int .u64 z1, .int .u64 z2] 48)) (.cells #[.int .u64 u1, .int .u64 u2] 48)) hb
      clear hb hb15 H14
      obtain ⟨⟨c21, c22⟩, ⟨c23, c24⟩, c25⟩ := H18.out.two
      obtain ⟨⟨c26, c27⟩, ⟨c28, c29⟩, c30⟩ := H19.out.two
      obtain ⟨⟨c31, c32⟩, ⟨c33, c34⟩, c35⟩ := H17.out.two
      go_wp2_with fail
      go_cut [] (fun wx => OwnC wx (w13.heap.size) #[.int .u64 m1, .int .u64 m2] ∧ OwnC wx (w13.heap.size + 1) #[.int .u64 v1, .int .u64 v2] ∧ OwnC wx w.heap.size #[.int .i64 0, .int .i64 0] ∧ Below w.heap.size w wx)
      case first =>
        have e1 : w13.heap.size + 1 ≠ w13.heap.size := by omega
        have e2 : w13.heap.size ≠ w13.heap.size + 1 := by omega
        have e3 : w13.heap.size + 1 ≠ w.heap.size := by omega
        have e4 : w13.heap.size ≠ w.heap.size := by omega
        go_region_with ((first | (go_at_call 43; (with_reducible refine (N1.out _).mono ?_); rintro e w' ⟨rfl, hb⟩; (first | (have H18 := Lib.hid (H18.out.below hb)) | (have H18 := Lib.hid ((OwnC.drew H18.out).below hb))); (first | (have H19 := Lib.hid (H19.out.below hb)) | (have H19 := Lib.hid ((OwnC.drew H19.out).below hb))); (first | (have H17 := Lib.hid (H17.out.below hb)) | (have H17 := Lib.hid ((OwnC.drew H17.out).below hb))); (first | (have hb20 := bcall hb20 hb) | (have hb20 := bcall (Below.drew hb20) hb)); clear hb; obtain ⟨⟨b0, b1⟩, ⟨b2, b3⟩, b4⟩ := H18.out.two; obtain ⟨⟨q0, q1⟩, ⟨q2, q3⟩, q4⟩ := H19.out.two; obtain ⟨⟨r_0, r_1⟩, ⟨r_2, r_3⟩, r_4⟩ := H17.out.two) | (go_at_call 43; (with_reducible refine (N2.out _).mono ?_); rintro e w' ⟨rfl, hb⟩; (first | (have H18 := Lib.hid (H18.out.below hb)) | (have H18 := Lib.hid ((OwnC.drew H18.out).below hb))); (first | (have H19 := Lib.hid (H19.out.below hb)) | (have H19 := Lib.hid ((OwnC.drew H19.out).below hb))); (first | (have H17 := Lib.hid (H17.out.below hb)) | (have H17 := Lib.hid ((OwnC.drew H17.out).below hb))); (first | (have hb20 := bcall hb20 hb) | (have hb20 := bcall (Below.drew hb20) hb)); clear hb; obtain ⟨⟨b0, b1⟩, ⟨b2, b3⟩, b4⟩ := H18.out.two; obtain ⟨⟨q0, q1⟩, ⟨q2, q3⟩, q4⟩ := H19.out.two; obtain ⟨⟨r_0, r_1⟩, ⟨r_2, r_3⟩, r_4⟩ := H17.out.two)))
        all_goals go_wp2_with fail
        all_goals go_meet
        all_goals exact ⟨OwnC.set e1 (OwnC.set e1 (OwnC.put2 H18.out)), OwnC.put2 (OwnC.set e2 (OwnC.set e2 H19.out)), OwnC.set e3 (OwnC.set e3 (OwnC.set e4 (OwnC.set e4 H17.out))), by repeat' first | (with_reducible assumption) | (with_reducible refine setB ?_ ?_) | omega⟩
      case rest =>
        clear hb20 H18 H19 H17 c21 c22 c23 c24 c25 c26 c27 c28 c29 c30 c31 c32 c33 c34 c35
        obtain ⟨QN, QD, QR, QB⟩ := hcut
        have KN := Lib.hid QN
        have KD := Lib.hid QD
        have KR := Lib.hid QR
        clear QN QD QR
        obtain ⟨⟨c36, c37⟩, ⟨c38, c39⟩, c40⟩ := KN.out.two
        obtain ⟨⟨c41, c42⟩, ⟨c43, c44⟩, c45⟩ := KD.out.two
        go_wp2_with fail
        (with_reducible refine (BB.out _).mono ?_)
        rintro e w46 ⟨rfl, hb⟩
        have H47 := Lib.hid ((KN.out).below hb)
        have H48 := Lib.hid ((KD.out).below hb)
        have H49 := Lib.hid ((KR.out).below hb)
        have hb50 := bcall QB hb
        clear hb QB KN KD KR c36 c37 c38 c39 c40 c41 c42 c43 c44 c45
        obtain ⟨⟨c51, c52⟩, ⟨c53, c54⟩, c55⟩ := H49.out.two
        go_wp2_with fail
        refine bodyPost_ret (v := .tuple #[.agg #[.int .i64 r.1.1, .int .i64 r.1.2], .int .i64 r.2]) ?_ rfl ⟨rfl, ?_⟩
        · simp [results, Tryd.results11, go_sem, *]
        · have hBB := hb50
          clear c51 c52 c53 c54 c55
          repeat' first | (with_reducible assumption) | (with_reducible exact Nat.le_refl _) | (with_reducible refine setB ?_ ?_) | (with_reducible refine Below.drew ?_) | (with_reducible refine bnew ?_ _) | omega
    · have BB := Lib.hid (B2.out hneg)
      rw [show decide (d < 0) = false by simpa using hneg] at CN
      clear hneg B1 B2
      clear N1 N2
      generalize whi num = x1 at *
      generalize wlo num = x2 at *
      generalize whi den = y1 at *
      generalize wlo den = y2 at *
      generalize whi n = z1 at *
      generalize wlo n = z2 at *
      generalize whi d = u1 at *
      generalize wlo d = u2 at *
      go_enter Tryd.func11, Tryd.ntmps11
      go_wp2_with fail
      (with_reducible refine (CG.out _).mono ?_)
      rintro e w56 ⟨rfl, hb⟩
      have H57 := Lib.hid ((OwnC.new w #[.int .i64 0, .int .i64 0] 23).below hb)
      have hb58 := bcall (bnew (Below.refl _ w) (.cells #[.int .i64 0, .int .i64 0] 23)) hb
      clear hb
      go_wp2_with fail
      (with_reducible refine (P1.out _).mono ?_)
      rintro e w59 ⟨rfl, hb⟩
      have H60 := Lib.hid ((H57.out).below hb)
      have hb61 := bcall hb58 hb
      clear hb hb58 H57
      go_wp2_with fail
      (with_reducible refine (V1.out _).mono ?_)
      rintro e w62 ⟨rfl, hb⟩
      have H63 := Lib.hid ((H60.out).below hb)
      have hb64 := bcall hb61 hb
      clear hb hb61 H60
      go_wp2_with fail
      (with_reducible refine (P2.out _).mono ?_)
      rintro e w65 ⟨rfl, hb⟩
      have H66 := Lib.hid ((H63.out).below hb)
      have hb67 := bcall hb64 hb
      clear hb hb64 H63
      go_wp2_with fail
      (with_reducible refine (V2.out _).mono ?_)
      rintro e w68 ⟨rfl, hb⟩
      have H69 := Lib.hid ((H66.out).below hb)
      have hb70 := bcall hb67 hb
      clear hb hb67 H66
      go_wp2_with fail
      have hlt := H69.out.2.2
      (with_reducible refine (CN.out _).mono ?_)
      rintro e w71 ⟨rfl, hb⟩
      have H72 := Lib.hid ((((H69.out).old (.cells #[.int .u64 z1, .int .u64 z2] 48)).old (.cells #[.int .u64 u1, .int .u64 u2] 48)).below hb)
      have H73 := Lib.hid (((OwnC.new w68 #[.int .u64 z1, .int .u64 z2] 48).old (.cells #[.int .u64 u1, .int .u64 u2] 48)).below hb)
      have H74 := Lib.hid ((OwnC.new2 w68 (.cells #[.int .u64 z1, .int .u64 z2] 48) #[.int .u64 u1, .int .u64 u2] 48).below hb)
      have hb75 := bcall (bnew (bnew hb70 (.cells #[.int .u64 z1, .int .u64 z2] 48)) (.cells #[.int .u64 u1, .int .u64 u2] 48)) hb
      clear hb hb70 H69
      obtain ⟨⟨c76, c77⟩, ⟨c78, c79⟩, c80⟩ := H73.out.two
      obtain ⟨⟨c81, c82⟩, ⟨c83, c84⟩, c85⟩ := H74.out.two
      go_wp2_with fail
      (with_reducible refine (BB.out _).mono ?_)
      rintro e w86 ⟨rfl, hb⟩
      have H87 := Lib.hid ((H72.out).below hb)
      have H88 := Lib.hid ((H73.out).below hb)
      have H89 := Lib.hid ((H74.out).below hb)
      have hb90 := bcall hb75 hb
      clear hb hb75 H72 H73 H74 c76 c77 c78 c79 c80 c81 c82 c83 c84 c85
      obtain ⟨⟨c91, c92⟩, ⟨c93, c94⟩, c95⟩ := H87.out.two
      go_wp2_with fail
      refine bodyPost_ret (v := .tuple #[.agg #[.int .i64 r.1.1, .int .i64 r.1.2], .int .i64 r.2]) ?_ rfl ⟨rfl, ?_⟩
      · simp [results, Tryd.results11, go_sem, *]
      · have hBB := hb90
        clear c91 c92 c93 c94 c95
        repeat' first | (with_reducible assumption) | (with_reducible exact Nat.le_refl _) | (with_reducible refine setB ?_ ?_) | (with_reducible refine Below.drew ?_) | (with_reducible refine bnew ?_ _) | omega
end Go.Proofs.YtinnlahmlepeeaaDoor
