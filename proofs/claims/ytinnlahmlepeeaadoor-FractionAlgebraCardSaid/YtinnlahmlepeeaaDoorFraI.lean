/- Contracts: the sum of fractions, as far as math/bits.Div64 is known. -/
import Derived.Test.YtinnlahmlepeeaaDoorFraH
namespace Go.Proofs.YtinnlahmlepeeaaDoor
open Go.RowKit
def addR (a b : F2) : F2 × Int := if validF a && validF b then ratR (toQ a + toQ b) else ((0, 0), 1)
/-- The numerator over the least common denominator. -/
def numS (a b : F2) : Int := a.1 * (b.2.tdiv (Nat.gcd a.2.natAbs b.2.natAbs)) + b.1 * (a.2.tdiv (Nat.gcd a.2.natAbs b.2.natAbs))
theorem Bx.new {r : Nat} {w w' : World} {o : Obj} (h : Bx r w w') : Bx r w (w'.alloc o) :=
  ⟨by have := h.1; simp; omega, fun b k hl hr => (World.cell?_alloc_lt w' o ⟨b, k, none⟩ (Nat.lt_of_lt_of_le hl h.1)).trans (h.2 b k hl hr)⟩
/-- A pointer to a new box of two words. -/
def Pt3 (s : Value) (wx : World) (n : Nat) (s1 s2 : Int) : Prop := ∃ p : Nat, s = .pointer (some ⟨p, 0, none⟩) ∧ n + 2 < p ∧ OwnC wx p #[.int .u64 s1, .int .u64 s2]
theorem close3 {wq wx w : World} {n p i j k : Nat} {s1 s2 : Int} {ca cb cr : Array Value} (HA : Hid (OwnC wq i ca)) (HB : Hid (OwnC wq j cb)) (HR : Hid (OwnC wq k cr)) (hb : Below w.heap.size w wq)
    (B : Below wq.heap.size wq wx) (hp : n + 2 < p) (hO : OwnC wx p #[.int .u64 s1, .int .u64 s2]) :
    Pt3 (.pointer (some ⟨p, 0, none⟩)) wx n s1 s2 ∧ OwnC wx i ca ∧ OwnC wx j cb ∧ OwnC wx k cr ∧ Below w.heap.size w wx :=
  ⟨⟨p, rfl, hp, hO⟩, HA.out.below B, HB.out.below B, HR.out.below B, bcall hb B⟩
theorem ediv_le18 {b c : Int} (h : 0 ≤ b) (h' : b < 1000000000000000000) (hc : 0 < c) : (b / c).natAbs ≤ 1000000000000000000 := by
  have := Int.ediv_le_self c h
  have := Int.ediv_nonneg h (Int.le_of_lt hc)
  have h3 : b / c ≤ b := Int.ediv_le_self _ h
  omega
theorem mul_le18 {x y : Int} (h1 : -1000000000000000000 < x) (h2 : x < 1000000000000000000) (_ : In64 y) (hy : y.natAbs ≤ 1000000000000000000) : (x * y).natAbs ≤ 1000000000000000000 * 1000000000000000000 := by
  rw [Int.natAbs_mul]; exact Nat.mul_le_mul (by omega) hy
set_option maxHeartbeats 4000000 in
theorem add_of (a b : F2) (ha : In64 a.1 ∧ In64 a.2) (hb : In64 b.1 ∧ In64 b.2) (HD : validF a = true → validF b = true → ∀ d : Int, 0 < d → d < 1000000000000000000 → DivAt ((numS a b).natAbs : Int) d) (w : World) : Calls Tryd.prog 16 #[.agg #[.int .i64 a.1, .int .i64 a.2], .agg #[.int .i64 b.1, .int .i64 b.2]] w fun e w' =>
    e = .returned (.tuple #[.agg #[.int .i64 (addR a b).1.1, .int .i64 (addR a b).1.2], .int .i64 (addR a b).2]) ∧ Below w.heap.size w w' := by
  have VA : Hid (∀ w, Calls Tryd.prog 14 #[.agg #[.int .i64 a.1, .int .i64 a.2]] w fun e w' => e = .returned (.bool (validF a)) ∧ Below w.heap.size w w') := Lib.hid fun w => valid_any a ha.1 ha.2 w
  have VB : Hid (∀ w, Calls Tryd.prog 14 #[.agg #[.int .i64 b.1, .int .i64 b.2]] w fun e w' => e = .returned (.bool (validF b)) ∧ Below w.heap.size w w') := Lib.hid fun w => valid_any b hb.1 hb.2 w
  rcases h1 : validF a with _ | _
  · rw [show addR a b = ((0, 0), 1) by unfold addR; rw [h1]; rfl]
    rw [h1] at VA
    clear VB h1 ha hb HD
    obtain ⟨a1, a2⟩ := a
    obtain ⟨b1, b2⟩ := b
    dsimp only at *
    go_enter Tryd.func16, Tryd.ntmps16
    go_wp2_with fail
    (with_reducible refine (VA.out _).mono ?_)
    rintro e w1 ⟨rfl, hb⟩
    have H2 := Lib.hid ((((OwnC.new w #[.int .i64 a1, .int .i64 a2] 23).old (.cells #[.int .i64 b1, .int .i64 b2] 23)).old (.cells #[.int .i64 0, .int .i64 0] 23)).below hb)
    have H3 := Lib.hid (((OwnC.new2 w (.cells #[.int .i64 a1, .int .i64 a2] 23) #[.int .i64 b1, .int .i64 b2] 23).old (.cells #[.int .i64 0, .int .i64 0] 23)).below hb)
    have H4 := Lib.hid ((OwnC.new3 w (.cells #[.int .i64 a1, .int .i64 a2] 23) (.cells #[.int .i64 b1, .int .i64 b2] 23) #[.int .i64 0, .int .i64 0] 23).below hb)
    have hb5 := bcall (bnew (bnew (bnew (Below.refl _ w) (.cells #[.int .i64 a1, .int .i64 a2] 23)) (.cells #[.int .i64 b1, .int .i64 b2] 23)) (.cells #[.int .i64 0, .int .i64 0] 23)) hb
    clear hb
    obtain ⟨⟨c6, c7⟩, ⟨c8, c9⟩, c10⟩ := H4.out.two
    go_wp2_with fail
    refine bodyPost_ret (v := .tuple #[.agg #[.int .i64 0, .int .i64 0], .int .i64 1]) ?_ rfl ⟨rfl, ?_⟩
    · simp [results, Tryd.results16, go_sem, *]
    · have hBB := hb5
      clear c6 c7 c8 c9 c10
      repeat' first | (with_reducible assumption) | (with_reducible exact Nat.le_refl _) | (with_reducible refine setB ?_ ?_) | (with_reducible refine Below.drew ?_) | (with_reducible refine bnew ?_ _) | omega
  · rcases h2 : validF b with _ | _
    · rw [show addR a b = ((0, 0), 1) by unfold addR; rw [h1, h2]; rfl]
      rw [h1] at VA
      rw [h2] at VB
      clear h1 h2 ha hb HD
      obtain ⟨a1, a2⟩ := a
      obtain ⟨b1, b2⟩ := b
      dsimp only at *
      go_enter Tryd.func16, Tryd.ntmps16
      go_wp2_with fail
      (with_reducible refine (VA.out _).mono ?_)
      rintro e w11 ⟨rfl, hb⟩
      have H12 := Lib.hid ((((OwnC.new w #[.int .i64 a1, .int .i64 a2] 23).old (.cells #[.int .i64 b1, .int .i64 b2] 23)).old (.cells #[.int .i64 0, .int .i64 0] 23)).below hb)
      have H13 := Lib.hid (((OwnC.new2 w (.cells #[.int .i64 a1, .int .i64 a2] 23) #[.int .i64 b1, .int .i64 b2] 23).old (.cells #[.int .i64 0, .int .i64 0] 23)).below hb)
      have H14 := Lib.hid ((OwnC.new3 w (.cells #[.int .i64 a1, .int .i64 a2] 23) (.cells #[.int .i64 b1, .int .i64 b2] 23) #[.int .i64 0, .int .i64 0] 23).below hb)
      have hb15 := bcall (bnew (bnew (bnew (Below.refl _ w) (.cells #[.int .i64 a1, .int .i64 a2] 23)) (.cells #[.int .i64 b1, .int .i64 b2] 23)) (.cells #[.int .i64 0, .int .i64 0] 23)) hb
      clear hb
      obtain ⟨⟨c16, c17⟩, ⟨c18, c19⟩, c20⟩ := H13.out.two
      go_wp2_with fail
      (with_reducible refine (VB.out _).mono ?_)
      rintro e w21 ⟨rfl, hb⟩
      have H22 := Lib.hid ((H12.out).below hb)
      have H23 := Lib.hid ((H13.out).below hb)
      have H24 := Lib.hid ((H14.out).below hb)
      have hb25 := bcall hb15 hb
      clear hb hb15 H12 H13 H14 c16 c17 c18 c19 c20
      obtain ⟨⟨c26, c27⟩, ⟨c28, c29⟩, c30⟩ := H24.out.two
      go_wp2_with fail
      refine bodyPost_ret (v := .tuple #[.agg #[.int .i64 0, .int .i64 0], .int .i64 1]) ?_ rfl ⟨rfl, ?_⟩
      · simp [results, Tryd.results16, go_sem, *]
      · have hBB := hb25
        clear c26 c27 c28 c29 c30
        repeat' first | (with_reducible assumption) | (with_reducible exact Nat.le_refl _) | (with_reducible refine setB ?_ ?_) | (with_reducible refine Below.drew ?_) | (with_reducible refine bnew ?_ _) | omega
    · have hm : addR a b = ratR (toQ a + toQ b) := by unfold addR; rw [h1, h2]; rfl
      rw [hm]
      rw [h1] at VA
      rw [h2] at VB
      have HDD := HD h1 h2
      clear HD
      unfold numS at HDD
      obtain ⟨a3, a4, a5, a6, a7⟩ := (validF_iff a).1 h1
      obtain ⟨b3, b4, b5, b6, b7⟩ := (validF_iff b).1 h2
      obtain ⟨a1, a2⟩ := a
      obtain ⟨b1, b2⟩ := b
      dsimp only at *
      obtain ⟨c, hc⟩ : ∃ g, Nat.gcd a2.natAbs b2.natAbs = g := ⟨_, rfl⟩
      rw [hc] at HDD
      have et1 : b2.tdiv c = b2 / c := Int.tdiv_eq_ediv_of_nonneg (by omega)
      have et2 : a2.tdiv c = a2 / c := Int.tdiv_eq_ediv_of_nonneg (by omega)
      obtain ⟨t, ht⟩ : ∃ t, Nat.gcd ((a1 * (b2.tdiv c) + b1 * (a2.tdiv c)).natAbs % c) c = t := ⟨_, rfl⟩
      obtain ⟨k1, k2, k3, t0, c0, k4, k5, k6⟩ := knuth_add (n1 := a1) (d1 := a2) (n2 := b1) (d2 := b2) (t := t) (by omega) (by omega) a7 b7 hc (by rw [← et1, ← et2]; exact ht)
      rw [← et1, ← et2] at k1 k3
      have et3 : b2.tdiv t = b2 / t := Int.tdiv_eq_ediv_of_nonneg (by omega)
      rw [← et2, ← et3] at k2
      have cl : c ≤ b2.natAbs := by rw [← hc]; exact Nat.gcd_le_right _ (by omega)
      have tl : t ≤ c := by rw [← ht]; exact Nat.gcd_le_right _ c0
      have i1 := tdiv_In64 hb.2 c0 k6
      have i2 := tdiv_In64 ha.2 c0 k5
      have i3 := tdiv_In64 hb.2 t0 k4
      have wc : IntKind.i64.wrap (c : Int) = (c : Int) := by rw [IntKind.wrap_i64]; omega
      have wt : IntKind.i64.wrap (t : Int) = (t : Int) := by rw [IntKind.wrap_i64]; omega
      have wt1 : IntKind.i64.wrap (b2.tdiv c) = b2.tdiv c := by obtain ⟨u, v⟩ := i1; rw [IntKind.wrap_i64]; omega
      have wt2 : IntKind.i64.wrap (a2.tdiv c) = a2.tdiv c := by obtain ⟨u, v⟩ := i2; rw [IntKind.wrap_i64]; omega
      have wt3 : IntKind.i64.wrap (b2.tdiv t) = b2.tdiv t := by obtain ⟨u, v⟩ := i3; rw [IntKind.wrap_i64]; omega
      have q1 := strict_mul ha.1 i1
      have q2 := strict_mul hb.1 i2
      have p1l := mul_le18 a5 a6 i1 (by rw [et1]; exact ediv_le18 (by omega) b4 (by omega))
      have p2l := mul_le18 b5 b6 i2 (by rw [et2]; exact ediv_le18 (by omega) a4 (by omega))
      obtain ⟨s, hs⟩ : ∃ s, a1 * (b2.tdiv c) + b1 * (a2.tdiv c) = s := ⟨_, rfl⟩
      rw [hs] at HDD ht k1 k3
      have ss : Strict s := by rw [← hs]; unfold Strict; omega
      have st : Strict (s / t) := by
        obtain ⟨k, rfl⟩ := k3
        rw [Int.mul_ediv_cancel_left _ (by omega)]
        exact strict_of (by omega) ss
      have sd : Strict (a2.tdiv c * b2.tdiv t) := strict_mul i2 i3
      have DC := HDD c (by omega) (by omega)
      have DT := HDD t (by omega) (by omega)
      have hmod : ((s.natAbs : Int) % (c : Int)) = ((s.natAbs % c : Nat) : Int) := by omega
      have ml : s.natAbs % c < c := Nat.mod_lt _ c0
      have wm : IntKind.i64.wrap ((s.natAbs % c : Nat) : Int) = ((s.natAbs % c : Nat) : Int) := by rw [IntKind.wrap_i64]; omega
      have G1 : Hid (∀ w, Calls Tryd.prog 39 #[.int .i64 a2, .int .i64 b2] w fun e w' => e = .returned (.int .u64 (c : Int)) ∧ Below w.heap.size w w') := Lib.hid fun w => by have := divisor_any a2 b2 ha.2 hb.2 w; rwa [hc] at this
      have P1 : Hid (∀ w, Calls Tryd.prog 40 #[.int .i64 a1, .int .i64 (b2.tdiv c)] w fun e w' => e = .returned (.agg #[.int .u64 (whi (a1 * b2.tdiv c)), .int .u64 (wlo (a1 * b2.tdiv c))]) ∧ Below w.heap.size w w') := Lib.hid fun w => product_any _ _ ha.1 i1 w
      have P2 : Hid (∀ w, Calls Tryd.prog 40 #[.int .i64 b1, .int .i64 (a2.tdiv c)] w fun e w' => e = .returned (.agg #[.int .u64 (whi (b1 * a2.tdiv c)), .int .u64 (wlo (b1 * a2.tdiv c))]) ∧ Below w.heap.size w w') := Lib.hid fun w => product_any _ _ hb.1 i2 w
      have PL : Hid (∀ w, Calls Tryd.prog 50 #[.agg #[.int .u64 (whi (a1 * b2.tdiv c)), .int .u64 (wlo (a1 * b2.tdiv c))], .agg #[.int .u64 (whi (b1 * a2.tdiv c)), .int .u64 (wlo (b1 * a2.tdiv c))]] w fun e w' => e = .returned (.agg #[.int .u64 (whi s), .int .u64 (wlo s)]) ∧ Below w.heap.size w w') := Lib.hid fun w => by have := wplus_any (a1 * b2.tdiv c) (b1 * a2.tdiv c) w; rwa [hs] at this
      have CM : Hid (∀ w, Calls Tryd.prog 51 #[.agg #[.int .u64 (whi s), .int .u64 (wlo s)], .int .u64 (c : Int)] w fun e w' => e = .returned (.int .u64 ((s.natAbs % c : Nat) : Int)) ∧ Below w.heap.size w w') := Lib.hid fun w => by have := modulo_of s c ss.in127 ss.1 (by omega) DC w; rwa [hmod] at this
      have G2 : Hid (∀ w, Calls Tryd.prog 39 #[.int .i64 ((s.natAbs % c : Nat) : Int), .int .i64 (c : Int)] w fun e w' => e = .returned (.int .u64 (t : Int)) ∧ Below w.heap.size w w') := Lib.hid fun w => by have := divisor_any ((s.natAbs % c : Nat) : Int) (c : Int) ⟨by omega, by omega⟩ ⟨by omega, by omega⟩ w; rwa [Int.natAbs_natCast, Int.natAbs_natCast, ht] at this
      have CV : Hid (∀ w, Calls Tryd.prog 41 #[.agg #[.int .u64 (whi s), .int .u64 (wlo s)], .int .u64 (t : Int)] w fun e w' => e = .returned (.agg #[.int .u64 (whi (s / t)), .int .u64 (wlo (s / t))]) ∧ Below w.heap.size w w') := Lib.hid fun w => over_of s t ss.in127 ss.1 (by omega) k3 DT w
      have P3 : Hid (∀ w, Calls Tryd.prog 40 #[.int .i64 (a2.tdiv c), .int .i64 (b2.tdiv t)] w fun e w' => e = .returned (.agg #[.int .u64 (whi (a2.tdiv c * b2.tdiv t)), .int .u64 (wlo (a2.tdiv c * b2.tdiv t))]) ∧ Below w.heap.size w w') := Lib.hid fun w => product_any _ _ i2 i3 w
      have CB : Hid (∀ w, Calls Tryd.prog 44 #[.agg #[.int .u64 (whi (s / t)), .int .u64 (wlo (s / t))], .agg #[.int .u64 (whi (a2.tdiv c * b2.tdiv t)), .int .u64 (wlo (a2.tdiv c * b2.tdiv t))]] w fun e w' => e = .returned (.tuple #[.agg #[.int .i64 (ratR (toQ (a1, a2) + toQ (b1, b2))).1.1, .int .i64 (ratR (toQ (a1, a2) + toQ (b1, b2))).1.2], .int .i64 (ratR (toQ (a1, a2) + toQ (b1, b2))).2]) ∧ Below w.heap.size w w') := Lib.hid fun w => by have := bnd_any _ _ st sd w; rwa [bnd_of k1 k2] at this
      have lz : (c : Int) ≠ 0 := by omega
      have rz : (t : Int) ≠ 0 := by omega
      have lp : (0 : Int) ≤ c := by omega
      have rp : (0 : Int) ≤ t := by omega
      have m1 : (c : Int) ≠ -1 := by omega
      have m2 : (t : Int) ≠ -1 := by omega
      clear hm et1 et2 et3 k1 k2 k3 k4 k5 k6 cl tl i1 i2 i3 q1 q2 p1l p2l ss st sd DC DT hmod ml t0 c0 a3 a4 a5 a6 a7 b3 b4 b5 b6 b7 h1 h2 ha hb hc hs ht HDD
      generalize ratR (toQ (a1, a2) + toQ (b1, b2)) = q at *
      generalize ((s.natAbs % c : Nat) : Int) = mm at *
      generalize whi (a1 * b2.tdiv c) = p1 at *
      generalize wlo (a1 * b2.tdiv c) = p2 at *
      generalize whi (b1 * a2.tdiv c) = p3 at *
      generalize wlo (b1 * a2.tdiv c) = p4 at *
      generalize whi s = s1 at *
      generalize wlo s = s2 at *
      generalize whi (s / t) = s3 at *
      generalize wlo (s / t) = s4 at *
      generalize whi (a2.tdiv c * b2.tdiv t) = d3 at *
      generalize wlo (a2.tdiv c * b2.tdiv t) = d4 at *
      generalize (c : Int) = ci at *
      generalize (t : Int) = ti at *
      go_enter Tryd.func16, Tryd.ntmps16
      go_wp2_with fail
      (with_reducible refine (VA.out _).mono ?_)
      rintro e w31 ⟨rfl, hb⟩
      have H32 := Lib.hid ((((OwnC.new w #[.int .i64 a1, .int .i64 a2] 23).old (.cells #[.int .i64 b1, .int .i64 b2] 23)).old (.cells #[.int .i64 0, .int .i64 0] 23)).below hb)
      have H33 := Lib.hid (((OwnC.new2 w (.cells #[.int .i64 a1, .int .i64 a2] 23) #[.int .i64 b1, .int .i64 b2] 23).old (.cells #[.int .i64 0, .int .i64 0] 23)).below hb)
      have H34 := Lib.hid ((OwnC.new3 w (.cells #[.int .i64 a1, .int .i64 a2] 23) (.cells #[.int .i64 b1, .int .i64 b2] 23) #[.int .i64 0, .int .i64 0] 23).below hb)
      have hb35 := bcall (bnew (bnew (bnew (Below.refl _ w) (.cells #[.int .i64 a1, .int .i64 a2] 23)) (.cells #[.int .i64 b1, .int .i64 b2] 23)) (.cells #[.int .i64 0, .int .i64 0] 23)) hb
      clear hb
      obtain ⟨⟨c36, c37⟩, ⟨c38, c39⟩, c40⟩ := H33.out.two
      go_wp2_with fail
      (with_reducible refine (VB.out _).mono ?_)
      rintro e w41 ⟨rfl, hb⟩
      have H42 := Lib.hid ((H32.out).below hb)
      have H43 := Lib.hid ((H33.out).below hb)
      have H44 := Lib.hid ((H34.out).below hb)
      have hb45 := bcall hb35 hb
      clear hb hb35 H32 H33 H34 c36 c37 c38 c39 c40
      obtain ⟨⟨c46, c47⟩, ⟨c48, c49⟩, c50⟩ := H42.out.two
      obtain ⟨⟨c51, c52⟩, ⟨c53, c54⟩, c55⟩ := H43.out.two
      go_wp2_with fail
      (with_reducible refine (G1.out _).mono ?_)
      rintro e w56 ⟨rfl, hb⟩
      have H57 := Lib.hid ((H42.out).below hb)
      have H58 := Lib.hid ((H43.out).below hb)
      have H59 := Lib.hid ((H44.out).below hb)
      have hb60 := bcall hb45 hb
      clear hb hb45 H42 H43 H44 c46 c47 c48 c49 c50 c51 c52 c53 c54 c55
      obtain ⟨⟨c61, c62⟩, ⟨c63, c64⟩, c65⟩ := H57.out.two
      obtain ⟨⟨c66, c67⟩, ⟨c68, c69⟩, c70⟩ := H58.out.two
      go_wp2_with fail
      go_quiet (fail)
      have hb := below_drewN (Below.refl w56.heap.size w56) nq
      have H71 := Lib.hid ((H57.out).below hb)
      have H72 := Lib.hid ((H58.out).below hb)
      have H73 := Lib.hid ((H59.out).below hb)
      have hb74 := bcall hb60 hb
      clear hb hb60 H57 H58 H59 c61 c62 c63 c64 c65 c66 c67 c68 c69 c70
      generalize w56.drewN nq = wq75 at *
      go_upto_region 5 with fail
      go_cut [9] (fun s wx => Pt3 s wx w.heap.size s1 s2 ∧ OwnC wx (w.heap.size) #[.int .i64 a1, .int .i64 a2] ∧ OwnC wx (w.heap.size + 1) #[.int .i64 b1, .int .i64 b2] ∧ OwnC wx (w.heap.size + 1 + 1) #[.int .i64 0, .int .i64 0] ∧ Below w.heap.size w wx)
      case first =>
        have hlt := H73.out.2.2
        have YA := H71
        have YB := H72
        go_region_held3 (fun w' => w'.cell? ⟨w.heap.size, 0, none⟩ = some (.int .i64 a1) ∧ w'.cell? ⟨w.heap.size, 1, none⟩ = some (.int .i64 a2) ∧ w'.cell? ⟨w.heap.size + 1, 0, none⟩ = some (.int .i64 b1) ∧ w'.cell? ⟨w.heap.size + 1, 1, none⟩ = some (.int .i64 b2) ∧ Below wq75.heap.size wq75 w')
          ((refine mkU2 YA YB ?_; repeat' first | (with_reducible assumption) | (with_reducible exact Below.refl _ _) | (with_reducible refine Below.drew ?_) | (with_reducible refine bnew ?_ _) | (with_reducible refine setB ?_ ?_) | omega))
          ((first | (go_at_call 40; (with_reducible refine (P1.out _).mono ?_); rintro e w' ⟨rfl, hb⟩; have hx := bcall (getU2 (by assumption)) hb; have hxs := hx.size; (first | (have ZP := Lib.hid (OwnC.below ZP.out hb)) | (have ZP := Lib.hid (OwnC.below (OwnC.drew ZP.out) hb)) | (have ZP := Lib.hid (OwnC.below (OwnC.new _ _ _) hb)) | (have ZP := Lib.hid (OwnC.below (OwnC.drew (OwnC.new _ _ _)) hb)) | skip); clear hb; (try (obtain ⟨⟨z0, z1⟩, ⟨z2, z3⟩, z4⟩ := ZP.out.two))) | (go_at_call 40; (with_reducible refine (P2.out _).mono ?_); rintro e w' ⟨rfl, hb⟩; have hx := bcall (getU2 (by assumption)) hb; have hxs := hx.size; (first | (have ZP := Lib.hid (OwnC.below ZP.out hb)) | (have ZP := Lib.hid (OwnC.below (OwnC.drew ZP.out) hb)) | (have ZP := Lib.hid (OwnC.below (OwnC.new _ _ _) hb)) | (have ZP := Lib.hid (OwnC.below (OwnC.drew (OwnC.new _ _ _)) hb)) | skip); clear hb; (try (obtain ⟨⟨z0, z1⟩, ⟨z2, z3⟩, z4⟩ := ZP.out.two))) | (go_at_call 50; (with_reducible refine (PL.out _).mono ?_); rintro e w' ⟨rfl, hb⟩; have hx := bcall (getU2 (by assumption)) hb; have hxs := hx.size; (first | (have ZP := Lib.hid (OwnC.below ZP.out hb)) | (have ZP := Lib.hid (OwnC.below (OwnC.drew ZP.out) hb)) | (have ZP := Lib.hid (OwnC.below (OwnC.new _ _ _) hb)) | (have ZP := Lib.hid (OwnC.below (OwnC.drew (OwnC.new _ _ _)) hb)) | skip); clear hb; (try (obtain ⟨⟨z0, z1⟩, ⟨z2, z3⟩, z4⟩ := ZP.out.two)))))
        all_goals go_wp2_with fail
        all_goals go_meet
        all_goals refine close3 H71 H72 H73 hb74 ?_ ?_ ?_
        all_goals first
          | (with_reducible exact OwnC.new _ _ _) | (with_reducible exact OwnC.put2 ZP.out) | exact OwnC.put2 ZP.out
          | omega
          | (repeat' first | (with_reducible assumption) | (with_reducible exact Below.refl _ _) | (with_reducible refine bnew ?_ _) | (with_reducible refine Below.drew ?_) | (with_reducible refine setB ?_ ?_) | omega)
      case rest =>
        clear hb74 H71 H72 H73
        obtain ⟨⟨p, rfl, hp, QS⟩, QA, QB, QR, QW⟩ := hcut
        have KA := Lib.hid QA
        have KB := Lib.hid QB
        have KR := Lib.hid QR
        have KS := Lib.hid QS
        clear QA QB QR QS G1 P1 P2 PL
        obtain ⟨⟨c76, c77⟩, ⟨c78, c79⟩, c80⟩ := KS.out.two
        go_wp2_with fail
        (with_reducible refine (CM.out _).mono ?_)
        rintro e w81 ⟨rfl, hb⟩
        have H82 := Lib.hid ((KA.out).below hb)
        have H83 := Lib.hid ((KB.out).below hb)
        have H84 := Lib.hid ((KR.out).below hb)
        have H85 := Lib.hid ((KS.out).below hb)
        have hb86 := bcall QW hb
        clear hb QW KA KB KR KS c76 c77 c78 c79 c80
        go_wp2_with fail
        (with_reducible refine (G2.out _).mono ?_)
        rintro e w87 ⟨rfl, hb⟩
        have H88 := Lib.hid ((H82.out).below hb)
        have H89 := Lib.hid ((H83.out).below hb)
        have H90 := Lib.hid ((H84.out).below hb)
        have H91 := Lib.hid ((H85.out).below hb)
        have hb92 := bcall hb86 hb
        clear hb hb86 H82 H83 H84 H85
        go_upto_region 7 with fail
        have xA : p ≠ w.heap.size + 1 + 1 := by omega
        have xB : w.heap.size + 1 ≠ w.heap.size + 1 + 1 := by omega
        have YA := H91
        have YB := H89
        go_region_held3 (fun w' => w'.cell? ⟨p, 0, none⟩ = some (.int .u64 s1) ∧ w'.cell? ⟨p, 1, none⟩ = some (.int .u64 s2) ∧ w'.cell? ⟨w.heap.size + 1, 0, none⟩ = some (.int .i64 b1) ∧ w'.cell? ⟨w.heap.size + 1, 1, none⟩ = some (.int .i64 b2) ∧ Bx (w.heap.size + 1 + 1) w87 w')
          ((refine mkX YA YB xA xB ?_; repeat' first | (with_reducible assumption) | (with_reducible exact Bx.refl _ _) | (with_reducible refine Bx.drew ?_) | (with_reducible refine Bx.set ?_)))
          ((first | (go_at_call 41; (with_reducible refine (CV.out _).mono ?_); rintro e w' ⟨rfl, hb⟩; have hx := Bx.call (getX (by assumption)) hb; (first | (have H89 := Lib.hid (H89.out.below hb)) | (have H89 := Lib.hid ((OwnC.drew H89.out).below hb))); (first | (have H90 := Lib.hid (H90.out.below hb)) | (have H90 := Lib.hid ((OwnC.drew H90.out).below hb))); (first | (have H91 := Lib.hid (H91.out.below hb)) | (have H91 := Lib.hid ((OwnC.drew H91.out).below hb))); (first | (have hb92 := bcall hb92 hb) | (have hb92 := bcall (Below.drew hb92) hb)); clear hb; obtain ⟨⟨z00, z01⟩, ⟨z02, z03⟩, z04⟩ := H90.out.two) | (go_at_call 40; (with_reducible refine (P3.out _).mono ?_); rintro e w' ⟨rfl, hb⟩; have hx := Bx.call (getX (by assumption)) hb; (first | (have H89 := Lib.hid (H89.out.below hb)) | (have H89 := Lib.hid ((OwnC.drew H89.out).below hb))); (first | (have H90 := Lib.hid (H90.out.below hb)) | (have H90 := Lib.hid ((OwnC.drew H90.out).below hb))); (first | (have H91 := Lib.hid (H91.out.below hb)) | (have H91 := Lib.hid ((OwnC.drew H91.out).below hb))); (first | (have hb92 := bcall hb92 hb) | (have hb92 := bcall (Below.drew hb92) hb)); clear hb; obtain ⟨⟨z00, z01⟩, ⟨z02, z03⟩, z04⟩ := H90.out.two) | (go_at_call 44; (with_reducible refine (CB.out _).mono ?_); rintro e w' ⟨rfl, hb⟩; have hx := Bx.call (getX (by assumption)) hb; (first | (have H89 := Lib.hid (H89.out.below hb)) | (have H89 := Lib.hid ((OwnC.drew H89.out).below hb))); (first | (have H90 := Lib.hid (H90.out.below hb)) | (have H90 := Lib.hid ((OwnC.drew H90.out).below hb))); (first | (have H91 := Lib.hid (H91.out.below hb)) | (have H91 := Lib.hid ((OwnC.drew H91.out).below hb))); (first | (have hb92 := bcall hb92 hb) | (have hb92 := bcall (Below.drew hb92) hb)); clear hb; obtain ⟨⟨z00, z01⟩, ⟨z02, z03⟩, z04⟩ := H90.out.two)))
        all_goals go_wp2_with fail
        refine bodyPost_ret (v := .tuple #[.agg #[.int .i64 q.1.1, .int .i64 q.1.2], .int .i64 q.2]) ?_ rfl ⟨rfl, ?_⟩
        · simp [results, Tryd.results16, go_sem, *]
        · have hBB := hb92
          repeat' first | (with_reducible assumption) | (with_reducible exact Nat.le_refl _) | (with_reducible refine setB ?_ ?_) | (with_reducible refine Below.drew ?_) | (with_reducible refine bnew ?_ _) | omega
end Go.Proofs.YtinnlahmlepeeaaDoor
