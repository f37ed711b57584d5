/- The reference's numbers of 128 bits with a sign. -/
import Derived.Test.YtinnlahmlepeeaaDoorFraS
namespace Go.Proofs.YtinnlahmlepeeaaDoor
open Go.RowKit
/-- A size below 2^128. -/
def InM (m : Int) : Prop := 0 ≤ m ∧ m < 340282366920938463463374607431768211456
theorem w_gt {x y : Int} (hx : InM x) (hy : InM y) : x < y ↔ whi x < whi y ∨ (whi y = whi x ∧ wlo x < wlo y) := by
  obtain ⟨h1, h2⟩ := hx
  obtain ⟨h3, h4⟩ := hy
  unfold whi wlo
  omega
theorem w_bit {m : Int} (h : InM m) (i : Int) (h0 : 0 ≤ i) (h1 : i ≤ 127) : (64 ≤ i → whi m / 2 ^ (i - 64).toNat % 2 = m / 2 ^ i.toNat % 2) ∧ (i < 64 → wlo m / 2 ^ i.toNat % 2 = m / 2 ^ i.toNat % 2) := by
  obtain ⟨h2, h3⟩ := h
  constructor
  · intro h4
    have e : whi m = m / 18446744073709551616 := by unfold whi; omega
    have e2 : i.toNat = 64 + (i - 64).toNat := by omega
    rw [e, e2, Int.pow_add, ← Int.ediv_ediv_of_nonneg (by omega)]
    rfl
  · intro h4
    unfold wlo
    obtain ⟨k, rfl⟩ : ∃ k : Nat, i = k := ⟨i.toNat, by omega⟩
    rw [Int.toNat_natCast]
    have e : (18446744073709551616 : Int) = 2 ^ k * (2 * 2 ^ (63 - k)) := by
      have : (18446744073709551616 : Int) = 2 ^ (k + (1 + (63 - k))) := by rw [show k + (1 + (63 - k)) = 64 by omega]; rfl
      rw [this, Int.pow_add, Int.pow_add]; rfl
    have hp : (0 : Int) < 2 ^ k := Int.pow_pos (by omega)
    rw [Int.emod_def m, e, Int.mul_assoc, Int.sub_ediv_of_dvd _ ⟨_, rfl⟩, Int.mul_ediv_cancel_left _ (by omega)]
    generalize m / 2 ^ k = a
    generalize m / (2 ^ k * (2 * 2 ^ (63 - k))) = b
    generalize (2 : Int) ^ (63 - k) = c
    rw [Int.mul_assoc]
    generalize c * b = d
    omega
theorem and_one {x : Int} (h0 : 0 ≤ x) (h1 : x < 18446744073709551616) : bits .and .u64 x 1 = x % 2 := by
  obtain ⟨a, rfl⟩ := Int.eq_ofNat_of_zero_le h0
  have h := bits_and_u64_nat a 1 (by omega) (by omega)
  rw [Nat.and_one_is_mod] at h
  refine h.trans ?_
  omega
theorem or_low {x y : Int} (h0 : 0 ≤ x) (h1 : x < 9223372036854775808) (h2 : 0 ≤ y) (h3 : y < 2) : bits .or .u64 (x * 2) y = x * 2 + y := by
  obtain ⟨a, rfl⟩ := Int.eq_ofNat_of_zero_le h0
  obtain ⟨b, rfl⟩ := Int.eq_ofNat_of_zero_le h2
  have h := bits_or_u64_nat (a * 2) b (by omega) (by omega)
  have e : a * 2 ||| b = a * 2 + b := by
    have := Nat.shiftLeft_add_eq_or_of_lt (i := 1) (b := b) (by omega) a
    rw [Nat.shiftLeft_eq] at this
    exact this.symm
  rw [e] at h
  refine Eq.trans ?_ (h.trans (by omega))
  congr 1
theorem rtimes_any (a b : Int) (ha : In64 a) (hb : In64 b) (w : World) : Calls Tryd.prog 54 #[.int .i64 a, .int .i64 b] w fun e w' =>
    e = .returned (.agg #[.int .u64 (whi ((a.natAbs : Int) * (b.natAbs : Int))), .int .u64 (wlo ((a.natAbs : Int) * (b.natAbs : Int))), .bool (decide (a < 0) != decide (b < 0))]) ∧ Below w.heap.size w w' := by
  have C1 : Hid (∀ w, Calls Tryd.prog 49 #[.int .i64 a] w fun e w' => e = .returned (.int .u64 (a.natAbs : Int)) ∧ w' = w) := Lib.hid fun w => rsize_any a ha w
  have C2 : Hid (∀ w, Calls Tryd.prog 49 #[.int .i64 b] w fun e w' => e = .returned (.int .u64 (b.natAbs : Int)) ∧ w' = w) := Lib.hid fun w => rsize_any b hb w
  have CM : Hid (∀ w, Calls Tryd.prog 65 #[.int .u64 (a.natAbs : Int), .int .u64 (b.natAbs : Int)] w fun e w' => e = .returned (.tuple #[.int .u64 (whi ((a.natAbs : Int) * (b.natAbs : Int))), .int .u64 (wlo ((a.natAbs : Int) * (b.natAbs : Int)))]) ∧ w' = w) := Lib.hid fun w => mul64_any _ _ (natAbs_InU ha) (natAbs_InU hb) w
  clear ha hb
  generalize (a.natAbs : Int) = p at *
  generalize (b.natAbs : Int) = q at *
  generalize whi (p * q) = h at *
  generalize wlo (p * q) = l at *
  rcases h1 : decide (a < 0) with _ | _ <;> rcases h2 : decide (b < 0) with _ | _
  · go_enter Tryd.func54, Tryd.ntmps54
    go_wp2_with fail
    (with_reducible refine (C1.out _).mono ?_)
    rintro e w1 ⟨rfl, rfl⟩
    go_wp2_with fail
    (with_reducible refine (C2.out _).mono ?_)
    rintro e w2 ⟨rfl, rfl⟩
    go_wp2_with fail
    (with_reducible refine (CM.out _).mono ?_)
    rintro e w3 ⟨rfl, rfl⟩
    go_wp2_with fail
    refine bodyPost_ret (v := .agg #[.int .u64 h, .int .u64 l, .bool false]) ?_ rfl ⟨rfl, ?_⟩
    · simp [results, Tryd.results54, go_sem, *]
    · have hBB := (bnew (Below.refl _ w) (.cells #[.int .u64 h, .int .u64 l, .bool false] 54))
      repeat' first | (with_reducible assumption) | (with_reducible exact Nat.le_refl _) | (with_reducible refine setB ?_ ?_) | (with_reducible refine Below.drew ?_) | (with_reducible refine bnew ?_ _) | omega
  · go_enter Tryd.func54, Tryd.ntmps54
    go_wp2_with fail
    (with_reducible refine (C1.out _).mono ?_)
    rintro e w4 ⟨rfl, rfl⟩
    go_wp2_with fail
    (with_reducible refine (C2.out _).mono ?_)
    rintro e w5 ⟨rfl, rfl⟩
    go_wp2_with fail
    (with_reducible refine (CM.out _).mono ?_)
    rintro e w6 ⟨rfl, rfl⟩
    go_wp2_with fail
    refine bodyPost_ret (v := .agg #[.int .u64 h, .int .u64 l, .bool true]) ?_ rfl ⟨rfl, ?_⟩
    · simp [results, Tryd.results54, go_sem, *]
    · have hBB := (bnew (Below.refl _ w) (.cells #[.int .u64 h, .int .u64 l, .bool true] 54))
      repeat' first | (with_reducible assumption) | (with_reducible exact Nat.le_refl _) | (with_reducible refine setB ?_ ?_) | (with_reducible refine Below.drew ?_) | (with_reducible refine bnew ?_ _) | omega
  · go_enter Tryd.func54, Tryd.ntmps54
    go_wp2_with fail
    (with_reducible refine (C1.out _).mono ?_)
    rintro e w7 ⟨rfl, rfl⟩
    go_wp2_with fail
    (with_reducible refine (C2.out _).mono ?_)
    rintro e w8 ⟨rfl, rfl⟩
    go_wp2_with fail
    (with_reducible refine (CM.out _).mono ?_)
    rintro e w9 ⟨rfl, rfl⟩
    go_wp2_with fail
    refine bodyPost_ret (v := .agg #[.int .u64 h, .int .u64 l, .bool true]) ?_ rfl ⟨rfl, ?_⟩
    · simp [results, Tryd.results54, go_sem, *]
    · have hBB := (bnew (Below.refl _ w) (.cells #[.int .u64 h, .int .u64 l, .bool true] 54))
      repeat' first | (with_reducible assumption) | (with_reducible exact Nat.le_refl _) | (with_reducible refine setB ?_ ?_) | (with_reducible refine Below.drew ?_) | (with_reducible refine bnew ?_ _) | omega
  · go_enter Tryd.func54, Tryd.ntmps54
    go_wp2_with fail
    (with_reducible refine (C1.out _).mono ?_)
    rintro e w10 ⟨rfl, rfl⟩
    go_wp2_with fail
    (with_reducible refine (C2.out _).mono ?_)
    rintro e w11 ⟨rfl, rfl⟩
    go_wp2_with fail
    (with_reducible refine (CM.out _).mono ?_)
    rintro e w12 ⟨rfl, rfl⟩
    go_wp2_with fail
    refine bodyPost_ret (v := .agg #[.int .u64 h, .int .u64 l, .bool false]) ?_ rfl ⟨rfl, ?_⟩
    · simp [results, Tryd.results54, go_sem, *]
    · have hBB := (bnew (Below.refl _ w) (.cells #[.int .u64 h, .int .u64 l, .bool false] 54))
      repeat' first | (with_reducible assumption) | (with_reducible exact Nat.le_refl _) | (with_reducible refine setB ?_ ?_) | (with_reducible refine Below.drew ?_) | (with_reducible refine bnew ?_ _) | omega
theorem rone_any (a : Int) (ha : In64 a) (w : World) : Calls Tryd.prog 45 #[.int .i64 a] w fun e w' => e = .returned (.agg #[.int .u64 (whi (a.natAbs : Int)), .int .u64 (wlo (a.natAbs : Int)), .bool (decide (a < 0))]) ∧ Below w.heap.size w w' := by
  have C : Hid (∀ w, Calls Tryd.prog 54 #[.int .i64 a, .int .i64 1] w fun e w' => e = .returned (.agg #[.int .u64 (whi (a.natAbs : Int)), .int .u64 (wlo (a.natAbs : Int)), .bool (decide (a < 0))]) ∧ Below w.heap.size w w') := Lib.hid fun w => by have := rtimes_any a 1 ha ⟨by omega, by omega⟩ w; rw [show ((1 : Int).natAbs : Int) = 1 from rfl, Int.mul_one, show decide ((1 : Int) < 0) = false from rfl, Bool.bne_false] at this; exact this
  generalize decide (a < 0) = s at *
  generalize whi (a.natAbs : Int) = h at *
  generalize wlo (a.natAbs : Int) = l at *
  go_enter Tryd.func45, Tryd.ntmps45
  go_wp2_with fail
  (with_reducible refine (C.out _).mono ?_)
  rintro e w13 ⟨rfl, hb⟩
  have H14 := Lib.hid ((OwnC.new w #[.int .u64 0, .int .u64 0, .bool false] 54).below hb)
  have hb15 := bcall (bnew (Below.refl _ w) (.cells #[.int .u64 0, .int .u64 0, .bool false] 54)) hb
  clear hb
  obtain ⟨⟨c16, c17, c18⟩, ⟨c19, c20, c21⟩, c22⟩ := H14.out.three
  go_wp2_with fail
  refine bodyPost_ret (v := .agg #[.int .u64 h, .int .u64 l, .bool s]) ?_ rfl ⟨rfl, ?_⟩
  · simp [results, Tryd.results45, go_sem, *]
  · have hBB := hb15
    clear c16 c17 c18 c19 c20 c21 c22
    repeat' first | (with_reducible assumption) | (with_reducible exact Nat.le_refl _) | (with_reducible refine setB ?_ ?_) | (with_reducible refine Below.drew ?_) | (with_reducible refine bnew ?_ _) | omega
theorem rzero_any (m : Int) (hm : InM m) (s : Bool) (w : World) : Calls Tryd.prog 58 #[.agg #[.int .u64 (whi m), .int .u64 (wlo m), .bool s]] w fun e w' => e = .returned (.bool (decide (m = 0))) ∧ Below w.heap.size w w' := by
  have HZ : Hid (m = 0 ↔ whi m = 0 ∧ wlo m = 0) := Lib.hid (by obtain ⟨h1, h2⟩ := hm; unfold whi wlo; omega)
  clear hm
  generalize whi m = h at *
  generalize wlo m = l at *
  rcases hh : (h == 0) with _ | _
  all_goals
    go_enter Tryd.func58, Tryd.ntmps58
    go_wp2_with fail
    go_ret
    exact ⟨ret_bool (by rw [Bool.eq_iff_iff, decide_eq_true_eq, HZ.out]; simp at hh ⊢; try simp [hh]), bnew (Below.refl _ _) _⟩
theorem rabove_any (x y : Int) (hx : InM x) (hy : InM y) (s t : Bool) (w : World) : Calls Tryd.prog 75 #[.agg #[.int .u64 (whi x), .int .u64 (wlo x), .bool s], .agg #[.int .u64 (whi y), .int .u64 (wlo y), .bool t]] w fun e w' => e = .returned (.bool (decide (y < x))) ∧ Below w.heap.size w w' := by
  have HZ := Lib.hid (w_gt hy hx)
  clear hx hy
  generalize whi x = x1 at *
  generalize wlo x = x2 at *
  generalize whi y = y1 at *
  generalize wlo y = y2 at *
  by_cases h1 : y1 < x1
  · have d1 : decide (y1 < x1) = true := by simpa using h1
    have HV : Hid (decide (y < x) = true) := Lib.hid (by rw [decide_eq_true_eq, HZ.out]; exact .inl h1)
    clear HZ h1
    go_enter Tryd.func75, Tryd.ntmps75
    go_wp2_with fail
    go_ret
    exact ⟨ret_bool HV.out.symm, bnew (bnew (Below.refl _ _) _) _⟩
  · have d1 : decide (y1 < x1) = false := by simpa using h1
    rcases h2 : (x1 == y1) with _ | _
    · have HV : Hid (decide (y < x) = false) := Lib.hid (by rw [decide_eq_false_iff_not, HZ.out]; rintro (h | ⟨h, _⟩); exact h1 h; rw [h] at h2; simp at h2)
      clear HZ h1
      go_enter Tryd.func75, Tryd.ntmps75
      go_wp2_with fail
      go_ret
      exact ⟨ret_bool HV.out.symm, bnew (bnew (Below.refl _ _) _) _⟩
    · rcases h3 : decide (y2 < x2) with _ | _
      · have HV : Hid (decide (y < x) = false) := Lib.hid (by rw [decide_eq_false_iff_not, HZ.out]; rintro (h | ⟨_, h⟩); exact h1 h; simp at h3; omega)
        clear HZ h1
        go_enter Tryd.func75, Tryd.ntmps75
        go_wp2_with fail
        go_ret
        exact ⟨ret_bool HV.out.symm, bnew (bnew (Below.refl _ _) _) _⟩
      · have HV : Hid (decide (y < x) = true) := Lib.hid (by rw [decide_eq_true_eq, HZ.out]; right; exact ⟨by simpa using h2, by simpa using h3⟩)
        clear HZ h1
        go_enter Tryd.func75, Tryd.ntmps75
        go_wp2_with fail
        go_ret
        exact ⟨ret_bool HV.out.symm, bnew (bnew (Below.refl _ _) _) _⟩
theorem rbit_any (m : Int) (hm : InM m) (s : Bool) (i : Int) (h0 : 0 ≤ i) (h1 : i ≤ 127) (w : World) : Calls Tryd.prog 82 #[.agg #[.int .u64 (whi m), .int .u64 (wlo m), .bool s], .int .i64 i] w fun e w' => e = .returned (.int .u64 (m / 2 ^ i.toNat % 2)) ∧ Below w.heap.size w w' := by
  have HB := w_bit hm i h0 h1
  have b1 := whi_bd m
  have b2 := wlo_bd m
  have p1 : 0 ≤ whi m / 2 ^ (i - 64).toNat := Int.ediv_nonneg b1.1 (Int.le_of_lt (Int.pow_pos (by omega)))
  have p2 : whi m / 2 ^ (i - 64).toNat < 18446744073709551616 := Int.lt_of_le_of_lt (Int.ediv_le_self _ b1.1) (by omega)
  have p3 : 0 ≤ wlo m / 2 ^ i.toNat := Int.ediv_nonneg b2.1 (Int.le_of_lt (Int.pow_pos (by omega)))
  have p4 : wlo m / 2 ^ i.toNat < 18446744073709551616 := Int.lt_of_le_of_lt (Int.ediv_le_self _ b2.1) (by omega)
  by_cases h64 : 64 ≤ i
  · have d1 : decide (64 ≤ i) = true := by simpa using h64
    have HV := Lib.hid (HB.1 h64)
    go_enter Tryd.func82, Tryd.ntmps82
    go_wp2_with fail
    go_ret
    exact ⟨ret_int ((and_one p1 p2).trans HV.out), bnew (Below.refl _ _) _⟩
  · have d1 : decide (64 ≤ i) = false := by simpa using h64
    have HV := Lib.hid (HB.2 (by omega))
    go_enter Tryd.func82, Tryd.ntmps82
    go_wp2_with fail
    go_ret
    exact ⟨ret_int ((and_one p3 p4).trans HV.out), bnew (Below.refl _ _) _⟩
theorem rminus_any (m : Int) (s : Bool) (w : World) : Calls Tryd.prog 55 #[.agg #[.int .u64 (whi m), .int .u64 (wlo m), .bool s]] w fun e w' => e = .returned (.agg #[.int .u64 (whi m), .int .u64 (wlo m), .bool (!s)]) ∧ Below w.heap.size w w' := by
  generalize whi m = h at *
  generalize wlo m = l at *
  rcases s with _ | _
  · go_enter Tryd.func55, Tryd.ntmps55
    go_wp2_with fail
    refine bodyPost_ret (v := .agg #[.int .u64 h, .int .u64 l, .bool true]) ?_ rfl ⟨rfl, ?_⟩
    · simp [results, Tryd.results55, go_sem, go_sem]
    · have hBB := (bnew (bnew (Below.refl _ w) (.cells #[.int .u64 h, .int .u64 l, .bool false] 54)) (.cells #[.int .u64 h, .int .u64 l, .bool true] 54))
      repeat' first | (with_reducible assumption) | (with_reducible exact Nat.le_refl _) | (with_reducible refine setB ?_ ?_) | (with_reducible refine Below.drew ?_) | (with_reducible refine bnew ?_ _) | omega
  · go_enter Tryd.func55, Tryd.ntmps55
    go_wp2_with fail
    refine bodyPost_ret (v := .agg #[.int .u64 h, .int .u64 l, .bool false]) ?_ rfl ⟨rfl, ?_⟩
    · simp [results, Tryd.results55, go_sem, go_sem]
    · have hBB := (bnew (bnew (Below.refl _ w) (.cells #[.int .u64 h, .int .u64 l, .bool true] 54)) (.cells #[.int .u64 h, .int .u64 l, .bool false] 54))
      repeat' first | (with_reducible assumption) | (with_reducible exact Nat.le_refl _) | (with_reducible refine setB ?_ ?_) | (with_reducible refine Below.drew ?_) | (with_reducible refine bnew ?_ _) | omega
/-- The borrow of x - y. -/
def bor2 (x y : Int) : Int := if x < y then 1 else 0
theorem sub2_lo (x y : Int) (w : World) : (callFunc 68 #[.int .u64 (wlo x), .int .u64 (wlo y), .int .u64 0]).run Tryd.prog w = .ok (.value (.tuple #[.int .u64 (wlo (x - y)), .int .u64 (bor2 (wlo x) (wlo y))])) w := by
  obtain ⟨a, ha⟩ := Int.eq_ofNat_of_zero_le (wlo_bd x).1
  obtain ⟨b, hb⟩ := Int.eq_ofNat_of_zero_le (wlo_bd y).1
  have h := Go.Proofs.Any7.bits_Sub64 Tryd.subL a b 0 (by omega) w
  have e : wlo (x - y) = (wlo x + 18446744073709551616 - wlo y - 0) % 18446744073709551616 := by unfold wlo; omega
  have b1 := (wlo_bd x).2
  have b2 := (wlo_bd y).2
  rw [e, ha, hb]
  refine h.trans (okP (by omega) ?_)
  unfold bor2
  by_cases h0 : a < b
  · rw [if_pos (by omega), if_pos (by omega)]; rfl
  · rw [if_neg (by omega), if_neg (by omega)]; rfl
theorem sub2_hi (x y : Int) : ∃ z : Int, ∀ w, (callFunc 68 #[.int .u64 (whi x), .int .u64 (whi y), .int .u64 (bor2 (wlo x) (wlo y))]).run Tryd.prog w = .ok (.value (.tuple #[.int .u64 (whi (x - y)), .int .u64 z])) w := by
  obtain ⟨a, ha⟩ := Int.eq_ofNat_of_zero_le (whi_bd x).1
  obtain ⟨b, hb⟩ := Int.eq_ofNat_of_zero_le (whi_bd y).1
  obtain ⟨c, hc, hc1⟩ : ∃ c : Nat, bor2 (wlo x) (wlo y) = c ∧ c ≤ 1 := by
    unfold bor2
    by_cases h : wlo x < wlo y
    · exact ⟨1, by rw [if_pos h]; rfl, by omega⟩
    · exact ⟨0, by rw [if_neg h]; rfl, by omega⟩
  have h := Go.Proofs.Any7.bits_Sub64 Tryd.subL a b c hc1
  have e : whi (x - y) = (whi x + 18446744073709551616 - whi y - bor2 (wlo x) (wlo y)) % 18446744073709551616 := by
    unfold bor2
    by_cases h : wlo x < wlo y
    · rw [if_pos h]; unfold whi; unfold wlo at h; omega
    · rw [if_neg h]; unfold whi; unfold wlo at h; omega
  have b1 := (whi_bd x).2
  have b2 := (whi_bd y).2
  refine ⟨((if a < b + c then 1 else 0 : Nat) : Int), fun w => ?_⟩
  rw [e, ha, hb, hc]
  exact (h w).trans (okP (by omega) rfl)
/-- Sums of numbers with signs. -/
def plusM (x : Int) (s : Bool) (y : Int) (t : Bool) : Int := if s = t then x + y else if x < y then y - x else x - y
def plusS (x : Int) (s : Bool) (y : Int) (t : Bool) : Bool := if s = t then s else if x < y then t else s
set_option maxHeartbeats 1000000 in
theorem rplus_any (x : Int) (s : Bool) (y : Int) (t : Bool) (hx : InM x) (hy : InM y) (w : World) : Calls Tryd.prog 53 #[.agg #[.int .u64 (whi x), .int .u64 (wlo x), .bool s], .agg #[.int .u64 (whi y), .int .u64 (wlo y), .bool t]] w fun e w' => e = .returned (.agg #[.int .u64 (whi (plusM x s y t)), .int .u64 (wlo (plusM x s y t)), .bool (plusS x s y t)]) ∧ Below w.heap.size w w' := by
  by_cases hst : s = t
  · have e1 : plusM x s y t = x + y := by unfold plusM; rw [if_pos hst]
    have e2 : plusS x s y t = s := by unfold plusS; rw [if_pos hst]
    rw [e1, e2]
    subst hst
    clear e1 e2 hx hy
    have h1 := add64_lo x y
    obtain ⟨z, h2⟩ := add64_hi x y
    generalize whi (x + y) = h' at *
    generalize wlo (x + y) = l' at *
    generalize (wlo x + wlo y) / 18446744073709551616 = c at *
    generalize whi x = x1 at *
    generalize wlo x = x2 at *
    generalize whi y = y1 at *
    generalize wlo y = y2 at *
    rcases s with _ | _
    · go_enter Tryd.func53, Tryd.ntmps53
      go_wp2_with fail
      refine bodyPost_ret (v := .agg #[.int .u64 h', .int .u64 l', .bool false]) ?_ rfl ⟨rfl, ?_⟩
      · simp [results, Tryd.results53, go_sem, *]
      · have hBB := (bnew (bnew (bnew (Below.refl _ w) (.cells #[.int .u64 x1, .int .u64 x2, .bool false] 54)) (.cells #[.int .u64 y1, .int .u64 y2, .bool false] 54)) (.cells #[.int .u64 h', .int .u64 l', .bool false] 54))
        repeat' first | (with_reducible assumption) | (with_reducible exact Nat.le_refl _) | (with_reducible refine setB ?_ ?_) | (with_reducible refine Below.drew ?_) | (with_reducible refine bnew ?_ _) | omega
    · go_enter Tryd.func53, Tryd.ntmps53
      go_wp2_with fail
      refine bodyPost_ret (v := .agg #[.int .u64 h', .int .u64 l', .bool true]) ?_ rfl ⟨rfl, ?_⟩
      · simp [results, Tryd.results53, go_sem, *]
      · have hBB := (bnew (bnew (bnew (Below.refl _ w) (.cells #[.int .u64 x1, .int .u64 x2, .bool true] 54)) (.cells #[.int .u64 y1, .int .u64 y2, .bool true] 54)) (.cells #[.int .u64 h', .int .u64 l', .bool true] 54))
        repeat' first | (with_reducible assumption) | (with_reducible exact Nat.le_refl _) | (with_reducible refine setB ?_ ?_) | (with_reducible refine Below.drew ?_) | (with_reducible refine bnew ?_ _) | omega
  · by_cases hlt : x < y
    · have e1 : plusM x s y t = y - x := by unfold plusM; rw [if_neg hst, if_pos hlt]
      have e2 : plusS x s y t = t := by unfold plusS; rw [if_neg hst, if_pos hlt]
      rw [e1, e2]
      have CA : Hid (∀ w, Calls Tryd.prog 75 #[.agg #[.int .u64 (whi y), .int .u64 (wlo y), .bool t], .agg #[.int .u64 (whi x), .int .u64 (wlo x), .bool s]] w fun e w' => e = .returned (.bool true) ∧ Below w.heap.size w w') := Lib.hid fun w => by have := rabove_any y x hy hx t s w; rwa [show decide (x < y) = true by simpa using hlt] at this
      clear e1 e2 hx hy hlt
      have h1 := sub2_lo y x
      obtain ⟨z, h2⟩ := sub2_hi y x
      generalize whi (y - x) = h' at *
      generalize wlo (y - x) = l' at *
      generalize bor2 (wlo y) (wlo x) = c at *
      generalize whi x = x1 at *
      generalize wlo x = x2 at *
      generalize whi y = y1 at *
      generalize wlo y = y2 at *
      have dst : (s == t) = false := by simpa using hst
      clear hst
      go_enter Tryd.func53, Tryd.ntmps53
      go_wp2_with fail
      (with_reducible refine (CA.out _).mono ?_)
      rintro e w23 ⟨rfl, hb⟩
      have H24 := Lib.hid ((((OwnC.new w #[.int .u64 x1, .int .u64 x2, .bool s] 54).old (.cells #[.int .u64 y1, .int .u64 y2, .bool t] 54)).old (.cells #[.int .u64 0, .int .u64 0, .bool false] 54)).below hb)
      have H25 := Lib.hid (((OwnC.new2 w (.cells #[.int .u64 x1, .int .u64 x2, .bool s] 54) #[.int .u64 y1, .int .u64 y2, .bool t] 54).old (.cells #[.int .u64 0, .int .u64 0, .bool false] 54)).below hb)
      have H26 := Lib.hid ((OwnC.new3 w (.cells #[.int .u64 x1, .int .u64 x2, .bool s] 54) (.cells #[.int .u64 y1, .int .u64 y2, .bool t] 54) #[.int .u64 0, .int .u64 0, .bool false] 54).below hb)
      have hb27 := bcall (bnew (bnew (bnew (Below.refl _ w) (.cells #[.int .u64 x1, .int .u64 x2, .bool s] 54)) (.cells #[.int .u64 y1, .int .u64 y2, .bool t] 54)) (.cells #[.int .u64 0, .int .u64 0, .bool false] 54)) hb
      clear hb
      obtain ⟨⟨c28, c29, c30⟩, ⟨c31, c32, c33⟩, c34⟩ := H24.out.three
      obtain ⟨⟨c35, c36, c37⟩, ⟨c38, c39, c40⟩, c41⟩ := H25.out.three
      obtain ⟨⟨c42, c43, c44⟩, ⟨c45, c46, c47⟩, c48⟩ := H26.out.three
      go_wp2_with fail
      refine bodyPost_ret (v := .agg #[.int .u64 h', .int .u64 l', .bool t]) ?_ rfl ⟨rfl, ?_⟩
      · simp [results, Tryd.results53, go_sem, *]
      · have hBB := hb27
        clear c28 c29 c30 c31 c32 c33 c34 c35 c36 c37 c38 c39 c40 c41 c42 c43 c44 c45 c46 c47 c48
        repeat' first | (with_reducible assumption) | (with_reducible exact Nat.le_refl _) | (with_reducible refine setB ?_ ?_) | (with_reducible refine Below.drew ?_) | (with_reducible refine bnew ?_ _) | omega
    · have e1 : plusM x s y t = x - y := by unfold plusM; rw [if_neg hst, if_neg hlt]
      have e2 : plusS x s y t = s := by unfold plusS; rw [if_neg hst, if_neg hlt]
      rw [e1, e2]
      have CA : Hid (∀ w, Calls Tryd.prog 75 #[.agg #[.int .u64 (whi y), .int .u64 (wlo y), .bool t], .agg #[.int .u64 (whi x), .int .u64 (wlo x), .bool s]] w fun e w' => e = .returned (.bool false) ∧ Below w.heap.size w w') := Lib.hid fun w => by have := rabove_any y x hy hx t s w; rwa [show decide (x < y) = false by simpa using hlt] at this
      clear e1 e2 hx hy hlt
      have h1 := sub2_lo x y
      obtain ⟨z, h2⟩ := sub2_hi x y
      generalize whi (x - y) = h' at *
      generalize wlo (x - y) = l' at *
      generalize bor2 (wlo x) (wlo y) = c at *
      generalize whi x = x1 at *
      generalize wlo x = x2 at *
      generalize whi y = y1 at *
      generalize wlo y = y2 at *
      have dst : (s == t) = false := by simpa using hst
      clear hst
      go_enter Tryd.func53, Tryd.ntmps53
      go_wp2_with fail
      (with_reducible refine (CA.out _).mono ?_)
      rintro e w49 ⟨rfl, hb⟩
      have H50 := Lib.hid ((((OwnC.new w #[.int .u64 x1, .int .u64 x2, .bool s] 54).old (.cells #[.int .u64 y1, .int .u64 y2, .bool t] 54)).old (.cells #[.int .u64 0, .int .u64 0, .bool false] 54)).below hb)
      have H51 := Lib.hid (((OwnC.new2 w (.cells #[.int .u64 x1, .int .u64 x2, .bool s] 54) #[.int .u64 y1, .int .u64 y2, .bool t] 54).old (.cells #[.int .u64 0, .int .u64 0, .bool false] 54)).below hb)
      have H52 := Lib.hid ((OwnC.new3 w (.cells #[.int .u64 x1, .int .u64 x2, .bool s] 54) (.cells #[.int .u64 y1, .int .u64 y2, .bool t] 54) #[.int .u64 0, .int .u64 0, .bool false] 54).below hb)
      have hb53 := bcall (bnew (bnew (bnew (Below.refl _ w) (.cells #[.int .u64 x1, .int .u64 x2, .bool s] 54)) (.cells #[.int .u64 y1, .int .u64 y2, .bool t] 54)) (.cells #[.int .u64 0, .int .u64 0, .bool false] 54)) hb
      clear hb
      obtain ⟨⟨c54, c55, c56⟩, ⟨c57, c58, c59⟩, c60⟩ := H50.out.three
      obtain ⟨⟨c61, c62, c63⟩, ⟨c64, c65, c66⟩, c67⟩ := H51.out.three
      obtain ⟨⟨c68, c69, c70⟩, ⟨c71, c72, c73⟩, c74⟩ := H52.out.three
      go_wp2_with fail
      refine bodyPost_ret (v := .agg #[.int .u64 h', .int .u64 l', .bool s]) ?_ rfl ⟨rfl, ?_⟩
      · simp [results, Tryd.results53, go_sem, *]
      · have hBB := hb53
        clear c54 c55 c56 c57 c58 c59 c60 c61 c62 c63 c64 c65 c66 c67 c68 c69 c70 c71 c72 c73 c74
        repeat' first | (with_reducible assumption) | (with_reducible exact Nat.le_refl _) | (with_reducible refine setB ?_ ?_) | (with_reducible refine Below.drew ?_) | (with_reducible refine bnew ?_ _) | omega
end Go.Proofs.YtinnlahmlepeeaaDoor
