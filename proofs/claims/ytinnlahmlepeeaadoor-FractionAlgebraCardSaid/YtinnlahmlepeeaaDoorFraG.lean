/- Contracts: the product, the quotient of fractions. -/
import Derived.Test.YtinnlahmlepeeaaDoorFraE
namespace Go.Proofs.YtinnlahmlepeeaaDoor
open Go.RowKit
def mulR (a b : F2) : F2 × Int := if validF a && validF b then ratR (toQ a * toQ b) else ((0, 0), 1)
theorem tdiv_In64 {n : Int} {g : Nat} (h : In64 n) (hg : 0 < g) (hd : (g : Int) ∣ n) : In64 (n.tdiv g) := by
  obtain ⟨k, rfl⟩ := hd
  rw [Int.mul_tdiv_cancel_left _ (by omega)]
  obtain ⟨h1, h2⟩ := h
  have h3 : k.natAbs ≤ ((g : Int) * k).natAbs := by rw [Int.natAbs_mul]; exact Nat.le_mul_of_pos_left _ (by omega)
  unfold In64
  constructor
  · rcases Int.lt_or_le k 0 with hk | hk
    · have : (g : Int) * k ≤ 1 * k := by rw [Int.mul_comm, Int.mul_comm 1]; exact Int.mul_le_mul_of_nonpos_left (by omega) (by omega)
      omega
    · omega
  · rcases Int.lt_or_le k 0 with hk | hk
    · omega
    · have : 1 * k ≤ (g : Int) * k := Int.mul_le_mul_of_nonneg_right (by omega) hk
      omega
theorem valid_In64 {f : F2} (h : validF f = true) : In64 f.1 ∧ In64 f.2 := by
  obtain ⟨h1, h2, h3, h4, _⟩ := (validF_iff f).1 h
  unfold In64; omega
theorem strict_mul {x y : Int} (hx : In64 x) (hy : In64 y) : Strict (x * y) := by
  have h1 := natAbs_In63 hx
  have h2 := natAbs_In63 hy
  have h3 : (x * y).natAbs ≤ 9223372036854775808 * 9223372036854775808 := by rw [Int.natAbs_mul]; exact Nat.mul_le_mul (by omega) (by omega)
  unfold Strict; omega
set_option maxHeartbeats 4000000 in
theorem mul_any (a b : F2) (ha : In64 a.1 ∧ In64 a.2) (hb : In64 b.1 ∧ In64 b.2) (w : World) : Calls Tryd.prog 18 #[.agg #[.int .i64 a.1, .int .i64 a.2], .agg #[.int .i64 b.1, .int .i64 b.2]] w fun e w' =>
    e = .returned (.tuple #[.agg #[.int .i64 (mulR a b).1.1, .int .i64 (mulR a b).1.2], .int .i64 (mulR a b).2]) ∧ Below w.heap.size w w' := by
  have VA : Hid (∀ w, Calls Tryd.prog 14 #[.agg #[.int .i64 a.1, .int .i64 a.2]] w fun e w' => e = .returned (.bool (validF a)) ∧ Below w.heap.size w w') := Lib.hid fun w => valid_any a ha.1 ha.2 w
  have VB : Hid (∀ w, Calls Tryd.prog 14 #[.agg #[.int .i64 b.1, .int .i64 b.2]] w fun e w' => e = .returned (.bool (validF b)) ∧ Below w.heap.size w w') := Lib.hid fun w => valid_any b hb.1 hb.2 w
  rcases h1 : validF a with _ | _
  · rw [show mulR a b = ((0, 0), 1) by unfold mulR; rw [h1]; rfl]
    rw [h1] at VA
    clear VB h1 ha hb
    obtain ⟨a1, a2⟩ := a
    obtain ⟨b1, b2⟩ := b
    dsimp only at *
    go_enter Tryd.func18, Tryd.ntmps18
    go_wp2_with fail
    (with_reducible refine (VA.out _).mono ?_)
    rintro e w1 ⟨rfl, hb⟩
    have H2 := Lib.hid ((((OwnC.new w #[.int .i64 a1, .int .i64 a2] 23).old (.cells #[.int .i64 b1, .int .i64 b2] 23)).old (.cells #[.int .i64 0, .int .i64 0] 23)).below hb)
    have H3 := Lib.hid (((OwnC.new2 w (.cells #[.int .i64 a1, .int .i64 a2] 23) #[.int .i64 b1, .int .i64 b2] 23).old (.cells #[.int .i64 0, .int .i64 0] 23)).below hb)
    have H4 := Lib.hid ((OwnC.new3 w (.cells #[.int .i64 a1, .int .i64 a2] 23) (.cells #[.int .i64 b1, .int .i64 b2] 23) #[.int .i64 0, .int .i64 0] 23).below hb)
    have hb5 := bcall (bnew (bnew (bnew (Below.refl _ w) (.cells #[.int .i64 a1, .int .i64 a2] 23)) (.cells #[.int .i64 b1, .int .i64 b2] 23)) (.cells #[.int .i64 0, .int .i64 0] 23)) hb
    clear hb
    obtain ⟨⟨c6, c7⟩, ⟨c8, c9⟩, c10⟩ := H4.out.two
    go_wp2_with fail
    refine bodyPost_ret (v := .tuple #[.agg #[.int .i64 0, .int .i64 0], .int .i64 1]) ?_ rfl ⟨rfl, ?_⟩
    · simp [results, Tryd.results18, go_sem, *]
    · have hBB := hb5
      clear c6 c7 c8 c9 c10
      repeat' first | (with_reducible assumption) | (with_reducible exact Nat.le_refl _) | (with_reducible refine setB ?_ ?_) | (with_reducible refine Below.drew ?_) | (with_reducible refine bnew ?_ _) | omega
  · rcases h2 : validF b with _ | _
    · rw [show mulR a b = ((0, 0), 1) by unfold mulR; rw [h1, h2]; rfl]
      rw [h1] at VA
      rw [h2] at VB
      clear h1 h2 ha hb
      obtain ⟨a1, a2⟩ := a
      obtain ⟨b1, b2⟩ := b
      dsimp only at *
      go_enter Tryd.func18, Tryd.ntmps18
      go_wp2_with fail
      (with_reducible refine (VA.out _).mono ?_)
      rintro e w11 ⟨rfl, hb⟩
      have H12 := Lib.hid ((((OwnC.new w #[.int .i64 a1, .int .i64 a2] 23).old (.cells #[.int .i64 b1, .int .i64 b2] 23)).old (.cells #[.int .i64 0, .int .i64 0] 23)).below hb)
      have H13 := Lib.hid (((OwnC.new2 w (.cells #[.int .i64 a1, .int .i64 a2] 23) #[.int .i64 b1, .int .i64 b2] 23).old (.cells #[.int .i64 0, .int .i64 0] 23)).below hb)
      have H14 := Lib.hid ((OwnC.new3 w (.cells #[.int .i64 a1, .int .i64 a2] 23) (.cells #[.int .i64 b1, .int .i64 b2] 23) #[.int .i64 0, .int .i64 0] 23).below hb)
      have hb15 := bcall (bnew (bnew (bnew (Below.refl _ w) (.cells #[.int .i64 a1, .int .i64 a2] 23)) (.cells #[.int .i64 b1, .int .i64 b2] 23)) (.cells #[.int .i64 0, .int .i64 0] 23)) hb
      clear hb
      obtain ⟨⟨c16, c17⟩, ⟨c18, c19⟩, c20⟩ := H13.out.two
      go_wp2_with fail
      (with_reducible refine (VB.out _).mono ?_)
      rintro e w21 ⟨rfl, hb⟩
      have H22 := Lib.hid ((H12.out).below hb)
      have H23 := Lib.hid ((H13.out).below hb)
      have H24 := Lib.hid ((H14.out).below hb)
      have hb25 := bcall hb15 hb
      clear hb hb15 H12 H13 H14 c16 c17 c18 c19 c20
      obtain ⟨⟨c26, c27⟩, ⟨c28, c29⟩, c30⟩ := H24.out.two
      go_wp2_with fail
      refine bodyPost_ret (v := .tuple #[.agg #[.int .i64 0, .int .i64 0], .int .i64 1]) ?_ rfl ⟨rfl, ?_⟩
      · simp [results, Tryd.results18, go_sem, *]
      · have hBB := hb25
        clear c26 c27 c28 c29 c30
        repeat' first | (with_reducible assumption) | (with_reducible exact Nat.le_refl _) | (with_reducible refine setB ?_ ?_) | (with_reducible refine Below.drew ?_) | (with_reducible refine bnew ?_ _) | omega
    · have hm : mulR a b = ratR (toQ a * toQ b) := by unfold mulR; rw [h1, h2]; rfl
      rw [hm]
      rw [h1] at VA
      rw [h2] at VB
      obtain ⟨a3, a4, a5, a6, a7⟩ := (validF_iff a).1 h1
      obtain ⟨b3, b4, b5, b6, b7⟩ := (validF_iff b).1 h2
      obtain ⟨a1, a2⟩ := a
      obtain ⟨b1, b2⟩ := b
      dsimp only at *
      obtain ⟨l, hl⟩ : ∃ g, Nat.gcd a1.natAbs b2.natAbs = g := ⟨_, rfl⟩
      obtain ⟨r, hr⟩ : ∃ g, Nat.gcd b1.natAbs a2.natAbs = g := ⟨_, rfl⟩
      obtain ⟨e1, e2, l0, r0⟩ := knuth_mul (n1 := a1) (d1 := a2) (n2 := b1) (d2 := b2) (by omega) (by omega) a7 b7 hl hr
      have ll : l ≤ b2.natAbs := by rw [← hl]; exact Nat.gcd_le_right _ (by omega)
      have rl : r ≤ a2.natAbs := by rw [← hr]; exact Nat.gcd_le_right _ (by omega)
      have dl1 : (l : Int) ∣ a1 := by rw [← hl]; exact Int.ofNat_dvd_left.2 (Nat.gcd_dvd_left _ _)
      have dl2 : (l : Int) ∣ b2 := by rw [← hl]; exact Int.ofNat_dvd_left.2 (Nat.gcd_dvd_right _ _)
      have dr1 : (r : Int) ∣ b1 := by rw [← hr]; exact Int.ofNat_dvd_left.2 (Nat.gcd_dvd_left _ _)
      have dr2 : (r : Int) ∣ a2 := by rw [← hr]; exact Int.ofNat_dvd_left.2 (Nat.gcd_dvd_right _ _)
      have i1 := tdiv_In64 ha.1 l0 dl1
      have i2 := tdiv_In64 hb.1 r0 dr1
      have i3 := tdiv_In64 ha.2 r0 dr2
      have i4 := tdiv_In64 hb.2 l0 dl2
      have wl : IntKind.i64.wrap (l : Int) = (l : Int) := by rw [IntKind.wrap_i64]; omega
      have wr : IntKind.i64.wrap (r : Int) = (r : Int) := by rw [IntKind.wrap_i64]; omega
      have G1 : Hid (∀ w, Calls Tryd.prog 39 #[.int .i64 a1, .int .i64 b2] w fun e w' => e = .returned (.int .u64 (l : Int)) ∧ Below w.heap.size w w') := Lib.hid fun w => by have := divisor_any a1 b2 ha.1 hb.2 w; rwa [hl] at this
      have G2 : Hid (∀ w, Calls Tryd.prog 39 #[.int .i64 b1, .int .i64 a2] w fun e w' => e = .returned (.int .u64 (r : Int)) ∧ Below w.heap.size w w') := Lib.hid fun w => by have := divisor_any b1 a2 hb.1 ha.2 w; rwa [hr] at this
      have P1 : Hid (∀ w, Calls Tryd.prog 40 #[.int .i64 (a1.tdiv l), .int .i64 (b1.tdiv r)] w fun e w' => e = .returned (.agg #[.int .u64 (whi (a1.tdiv l * b1.tdiv r)), .int .u64 (wlo (a1.tdiv l * b1.tdiv r))]) ∧ Below w.heap.size w w') := Lib.hid fun w => product_any _ _ i1 i2 w
      have P2 : Hid (∀ w, Calls Tryd.prog 40 #[.int .i64 (a2.tdiv r), .int .i64 (b2.tdiv l)] w fun e w' => e = .returned (.agg #[.int .u64 (whi (a2.tdiv r * b2.tdiv l)), .int .u64 (wlo (a2.tdiv r * b2.tdiv l))]) ∧ Below w.heap.size w w') := Lib.hid fun w => product_any _ _ i3 i4 w
      have CB : Hid (∀ w, Calls Tryd.prog 44 #[.agg #[.int .u64 (whi (a1.tdiv l * b1.tdiv r)), .int .u64 (wlo (a1.tdiv l * b1.tdiv r))], .agg #[.int .u64 (whi (a2.tdiv r * b2.tdiv l)), .int .u64 (wlo (a2.tdiv r * b2.tdiv l))]] w fun e w' => e = .returned (.tuple #[.agg #[.int .i64 (ratR (toQ (a1, a2) * toQ (b1, b2))).1.1, .int .i64 (ratR (toQ (a1, a2) * toQ (b1, b2))).1.2], .int .i64 (ratR (toQ (a1, a2) * toQ (b1, b2))).2]) ∧ Below w.heap.size w w') := Lib.hid fun w => by have := bnd_any _ _ (strict_mul i1 i2) (strict_mul i3 i4) w; rwa [bnd_of e1 e2] at this
      have lz : (l : Int) ≠ 0 := by omega
      have rz : (r : Int) ≠ 0 := by omega
      have lp : (0 : Int) ≤ l := by omega
      have rp : (0 : Int) ≤ r := by omega
      have m1 : (l : Int) ≠ -1 := by omega
      have m2 : (r : Int) ≠ -1 := by omega
      have wt1 : IntKind.i64.wrap (a1.tdiv l) = a1.tdiv l := by obtain ⟨u, v⟩ := i1; rw [IntKind.wrap_i64]; omega
      have wt2 : IntKind.i64.wrap (b1.tdiv r) = b1.tdiv r := by obtain ⟨u, v⟩ := i2; rw [IntKind.wrap_i64]; omega
      have wt3 : IntKind.i64.wrap (a2.tdiv r) = a2.tdiv r := by obtain ⟨u, v⟩ := i3; rw [IntKind.wrap_i64]; omega
      have wt4 : IntKind.i64.wrap (b2.tdiv l) = b2.tdiv l := by obtain ⟨u, v⟩ := i4; rw [IntKind.wrap_i64]; omega
      clear hm hl hr e1 e2 ll rl dl1 dl2 dr1 dr2 i1 i2 i3 i4 l0 r0 a3 a4 a5 a6 a7 b3 b4 b5 b6 b7 h1 h2 ha hb
      generalize ratR (toQ (a1, a2) * toQ (b1, b2)) = q at *
      generalize whi (a1.tdiv l * b1.tdiv r) = p1 at *
      generalize wlo (a1.tdiv l * b1.tdiv r) = p2 at *
      generalize whi (a2.tdiv r * b2.tdiv l) = p3 at *
      generalize wlo (a2.tdiv r * b2.tdiv l) = p4 at *
      generalize (l : Int) = li at *
      generalize (r : Int) = ri at *
      go_enter Tryd.func18, Tryd.ntmps18
      go_wp2_with fail
      (with_reducible refine (VA.out _).mono ?_)
      rintro e w31 ⟨rfl, hb⟩
      have H32 := Lib.hid ((((OwnC.new w #[.int .i64 a1, .int .i64 a2] 23).old (.cells #[.int .i64 b1, .int .i64 b2] 23)).old (.cells #[.int .i64 0, .int .i64 0] 23)).below hb)
      have H33 := Lib.hid (((OwnC.new2 w (.cells #[.int .i64 a1, .int .i64 a2] 23) #[.int .i64 b1, .int .i64 b2] 23).old (.cells #[.int .i64 0, .int .i64 0] 23)).below hb)
      have H34 := Lib.hid ((OwnC.new3 w (.cells #[.int .i64 a1, .int .i64 a2] 23) (.cells #[.int .i64 b1, .int .i64 b2] 23) #[.int .i64 0, .int .i64 0] 23).below hb)
      have hb35 := bcall (bnew (bnew (bnew (Below.refl _ w) (.cells #[.int .i64 a1, .int .i64 a2] 23)) (.cells #[.int .i64 b1, .int .i64 b2] 23)) (.cells #[.int .i64 0, .int .i64 0] 23)) hb
      clear hb
      obtain ⟨⟨c36, c37⟩, ⟨c38, c39⟩, c40⟩ := H33.out.two
      go_wp2_with fail
      (with_reducible refine (VB.out _).mono ?_)
      rintro e w41 ⟨rfl, hb⟩
      have H42 := Lib.hid ((H32.out).below hb)
      have H43 := Lib.hid ((H33.out).below hb)
      have H44 := Lib.hid ((H34.out).below hb)
      have hb45 := bcall hb35 hb
      clear hb hb35 H32 H33 H34 c36 c37 c38 c39 c40
      go_upto_region 3 with fail
      go_cut [6, 7] (fun s t wx => s = .int .i64 li ∧ t = .int .i64 ri ∧ OwnC wx (w.heap.size) #[.int .i64 a1, .int .i64 a2] ∧ OwnC wx (w.heap.size + 1) #[.int .i64 b1, .int .i64 b2] ∧ OwnC wx (w.heap.size + 1 + 1) #[.int .i64 0, .int .i64 0] ∧ Below w.heap.size w wx)
      case first =>
        have xA : w.heap.size ≠ w.heap.size + 1 + 1 := by omega
        have xB : w.heap.size + 1 ≠ w.heap.size + 1 + 1 := by omega
        have YA := H42
        have YB := H43
        go_region_held3 (fun w' => w'.cell? ⟨w.heap.size, 0, none⟩ = some (.int .i64 a1) ∧ w'.cell? ⟨w.heap.size, 1, none⟩ = some (.int .i64 a2) ∧ w'.cell? ⟨w.heap.size + 1, 0, none⟩ = some (.int .i64 b1) ∧ w'.cell? ⟨w.heap.size + 1, 1, none⟩ = some (.int .i64 b2) ∧ Bx (w.heap.size + 1 + 1) w41 w')
          ((refine mkX YA YB xA xB ?_; repeat' first | (with_reducible assumption) | (with_reducible exact Bx.refl _ _) | (with_reducible refine Bx.drew ?_) | (with_reducible refine Bx.set ?_)))
          ((first | (go_at_call 39; (with_reducible refine (G1.out _).mono ?_); rintro e w' ⟨rfl, hb⟩; have hx := Bx.call (getX (by assumption)) hb; (first | (have H42 := Lib.hid (H42.out.below hb)) | (have H42 := Lib.hid ((OwnC.drew H42.out).below hb))); (first | (have H43 := Lib.hid (H43.out.below hb)) | (have H43 := Lib.hid ((OwnC.drew H43.out).below hb))); (first | (have H44 := Lib.hid (H44.out.below hb)) | (have H44 := Lib.hid ((OwnC.drew H44.out).below hb))); (first | (have hb45 := bcall hb45 hb) | (have hb45 := bcall (Below.drew hb45) hb)); clear hb; obtain ⟨⟨z00, z01⟩, ⟨z02, z03⟩, z04⟩ := H44.out.two) | (go_at_call 39; (with_reducible refine (G2.out _).mono ?_); rintro e w' ⟨rfl, hb⟩; have hx := Bx.call (getX (by assumption)) hb; (first | (have H42 := Lib.hid (H42.out.below hb)) | (have H42 := Lib.hid ((OwnC.drew H42.out).below hb))); (first | (have H43 := Lib.hid (H43.out.below hb)) | (have H43 := Lib.hid ((OwnC.drew H43.out).below hb))); (first | (have H44 := Lib.hid (H44.out.below hb)) | (have H44 := Lib.hid ((OwnC.drew H44.out).below hb))); (first | (have hb45 := bcall hb45 hb) | (have hb45 := bcall (Below.drew hb45) hb)); clear hb; obtain ⟨⟨z00, z01⟩, ⟨z02, z03⟩, z04⟩ := H44.out.two)))
        all_goals go_wp2_with fail
        all_goals go_meet
        all_goals exact ⟨rfl, rfl, H42.out, H43.out, H44.out, hb45⟩
      case rest =>
        clear hb45 H42 H43 H44
        obtain ⟨rfl, rfl, QA, QB, QR, QW⟩ := hcut
        have KA := Lib.hid QA
        have KB := Lib.hid QB
        have KR := Lib.hid QR
        clear QA QB QR G1 G2
        go_upto_region 4 with fail
        have xA : w.heap.size ≠ w.heap.size + 1 + 1 := by omega
        have xB : w.heap.size + 1 ≠ w.heap.size + 1 + 1 := by omega
        have YA := KA
        have YB := KB
        go_region_held3 (fun w' => w'.cell? ⟨w.heap.size, 0, none⟩ = some (.int .i64 a1) ∧ w'.cell? ⟨w.heap.size, 1, none⟩ = some (.int .i64 a2) ∧ w'.cell? ⟨w.heap.size + 1, 0, none⟩ = some (.int .i64 b1) ∧ w'.cell? ⟨w.heap.size + 1, 1, none⟩ = some (.int .i64 b2) ∧ Bx (w.heap.size + 1 + 1) wc w')
          ((refine mkX YA YB xA xB ?_; repeat' first | (with_reducible assumption) | (with_reducible exact Bx.refl _ _) | (with_reducible refine Bx.drew ?_) | (with_reducible refine Bx.set ?_)))
          ((first | (go_at_call 40; (with_reducible refine (P1.out _).mono ?_); rintro e w' ⟨rfl, hb⟩; have hx := Bx.call (getX (by assumption)) hb; (first | (have KA := Lib.hid (KA.out.below hb)) | (have KA := Lib.hid ((OwnC.drew KA.out).below hb))); (first | (have KB := Lib.hid (KB.out.below hb)) | (have KB := Lib.hid ((OwnC.drew KB.out).below hb))); (first | (have KR := Lib.hid (KR.out.below hb)) | (have KR := Lib.hid ((OwnC.drew KR.out).below hb))); (first | (have QW := bcall QW hb) | (have QW := bcall (Below.drew QW) hb)); clear hb; obtain ⟨⟨z00, z01⟩, ⟨z02, z03⟩, z04⟩ := KR.out.two) | (go_at_call 40; (with_reducible refine (P2.out _).mono ?_); rintro e w' ⟨rfl, hb⟩; have hx := Bx.call (getX (by assumption)) hb; (first | (have KA := Lib.hid (KA.out.below hb)) | (have KA := Lib.hid ((OwnC.drew KA.out).below hb))); (first | (have KB := Lib.hid (KB.out.below hb)) | (have KB := Lib.hid ((OwnC.drew KB.out).below hb))); (first | (have KR := Lib.hid (KR.out.below hb)) | (have KR := Lib.hid ((OwnC.drew KR.out).below hb))); (first | (have QW := bcall QW hb) | (have QW := bcall (Below.drew QW) hb)); clear hb; obtain ⟨⟨z00, z01⟩, ⟨z02, z03⟩, z04⟩ := KR.out.two) | (go_at_call 44; (with_reducible refine (CB.out _).mono ?_); rintro e w' ⟨rfl, hb⟩; have hx := Bx.call (getX (by assumption)) hb; (first | (have KA := Lib.hid (KA.out.below hb)) | (have KA := Lib.hid ((OwnC.drew KA.out).below hb))); (first | (have KB := Lib.hid (KB.out.below hb)) | (have KB := Lib.hid ((OwnC.drew KB.out).below hb))); (first | (have KR := Lib.hid (KR.out.below hb)) | (have KR := Lib.hid ((OwnC.drew KR.out).below hb))); (first | (have QW := bcall QW hb) | (have QW := bcall (Below.drew QW) hb)); clear hb; obtain ⟨⟨z00, z01⟩, ⟨z02, z03⟩, z04⟩ := KR.out.two)))
        all_goals go_wp2_with fail
        refine bodyPost_ret (v := .tuple #[.agg #[.int .i64 q.1.1, .int .i64 q.1.2], .int .i64 q.2]) ?_ rfl ⟨rfl, ?_⟩
        · simp [results, Tryd.results18, go_sem, *]
        · have hBB := QW
          repeat' first | (with_reducible assumption) | (with_reducible exact Nat.le_refl _) | (with_reducible refine setB ?_ ?_) | (with_reducible refine Below.drew ?_) | (with_reducible refine bnew ?_ _) | omega
end Go.Proofs.YtinnlahmlepeeaaDoor
