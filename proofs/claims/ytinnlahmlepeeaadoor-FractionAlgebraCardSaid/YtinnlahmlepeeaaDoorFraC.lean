/- Contracts: the division of a number of 128 bits, what bounds a fraction. -/
import Derived.Test.YtinnlahmlepeeaaDoorFraB
import Derived.Test.YtinnlahmlepeeaaDoorFraN
import Derived.Test.YtinnlahmlepeeaaDoorLay2
import Derived.RegionTactic
import Derived.Deep.DeepCutAuto
import Derived.Deep.CutBlock
namespace Go.Proofs.YtinnlahmlepeeaaDoor
open Go.RowKit
theorem lz64_any (x : Int) (h : InU x) (w : World) : Calls Tryd.prog 81 #[.int .u64 x] w fun e w' => e = .returned (.int .i64 (64 - (Lib.bitLen x.toNat : Int))) ∧ w' = w :=
  Go.Proofs.Any.bits_LeadingZeros64 Tryd.lzL x w h.1 (by have := h.2; omega)
/-- Division where the upper half is 0. -/
theorem div64_low (lo y : Int) (hl : InU lo) (hy : InU y) (h0 : y ≠ 0) (w : World) : Calls Tryd.prog 67 #[.int .u64 0, .int .u64 lo, .int .u64 y] w fun e w' => e = .returned (.tuple #[.int .u64 (lo / y), .int .u64 (lo % y)]) ∧ Below w.heap.size w w' := by
  obtain ⟨l1, l2⟩ := hl
  obtain ⟨y1, y2⟩ := hy
  have d0 : (y == 0) = false := by simpa using h0
  have d1 : decide (y ≤ 0) = false := by simp; omega
  go_enter Tryd.func67, Tryd.ntmps67
  go_wp2_with fail
  go_quiet (fail)
  go_wp2_with fail
  refine bodyPost_ret (v := .tuple #[.int .u64 (lo / y), .int .u64 (lo % y)]) ?_ rfl ⟨rfl, below_drewN (Below.refl _ _) _⟩
  simp [results, Tryd.results67, go_sem]
/-- Division as over and modulo use it: what it asks of math/bits.Div64. -/
def DivAt (m d : Int) : Prop := ∀ w, Calls Tryd.prog 67 #[.int .u64 (whi m % d), .int .u64 (wlo m), .int .u64 d] w fun e w' =>
  e = .returned (.tuple #[.int .u64 ((whi m % d * 18446744073709551616 + wlo m) / d), .int .u64 ((whi m % d * 18446744073709551616 + wlo m) % d)]) ∧ Below w.heap.size w w'
theorem divAt_low {m d : Int} (h0 : 0 ≤ m) (hm : m < 18446744073709551616) (hd : 0 < d) (hd' : d < 18446744073709551616) : DivAt m d := by
  intro w
  have e1 : whi m = 0 := by unfold whi; omega
  rw [e1, Int.zero_emod, Int.zero_mul, Int.zero_add]
  have := wlo_bd m
  exact div64_low _ _ ⟨this.1, by omega⟩ ⟨by omega, hd'⟩ (by omega) w
/-- What a drawn region carries along: a box of two numbers, and that all old cells stand. -/
abbrev SU (w3 : World) (n : Nat) (x y : Value) (w' : World) : Prop := w'.cell? ⟨n, 0, none⟩ = some x ∧ w'.cell? ⟨n, 1, none⟩ = some y ∧ Below w3.heap.size w3 w'
theorem mkU {w3 w' : World} {n : Nat} {x y : Value} (h : Hid (OwnC w3 n #[x, y])) (hb : Below w3.heap.size w3 w') : SU w3 n x y w' :=
  have h := (h.out.below hb).two
  ⟨h.1.1, h.1.2, hb⟩
theorem getU {w3 w' : World} {n : Nat} {x y : Value} (h : SU w3 n x y w') : Below w3.heap.size w3 w' := h.2.2
theorem rem64_any (hi lo d : Int) (hi0 : InU hi) (hd : 0 < d) (HD : ∀ w, Calls Tryd.prog 67 #[.int .u64 (hi % d), .int .u64 lo, .int .u64 d] w fun e w' =>
    e = .returned (.tuple #[.int .u64 ((hi % d * 18446744073709551616 + lo) / d), .int .u64 ((hi % d * 18446744073709551616 + lo) % d)]) ∧ Below w.heap.size w w') (w : World) : Calls Tryd.prog 74 #[.int .u64 hi, .int .u64 lo, .int .u64 d] w fun e w' =>
    e = .returned (.int .u64 ((hi % d * 18446744073709551616 + lo) % d)) ∧ Below w.heap.size w w' := by
  have d0 : (d == 0) = false := by simpa using (by omega : d ≠ 0)
  have HC := Lib.hid HD
  obtain ⟨i1, i2⟩ := hi0
  clear HD
  generalize (hi % d * 18446744073709551616 + lo) % d = r at *
  generalize (hi % d * 18446744073709551616 + lo) / d = q at *
  go_enter Tryd.func74, Tryd.ntmps74
  go_wp2_with fail
  (with_reducible refine (HC.out _).mono ?_)
  rintro e w1 ⟨rfl, hb⟩
  go_wp2_with fail
  go_ret
  exact ⟨rfl, hb⟩
theorem modulo_of (z d : Int) (hz : In127 z) (hm : -170141183460469231731687303715884105728 < z) (hd : 0 < d) (HD : DivAt (z.natAbs : Int) d) (w : World) : Calls Tryd.prog 51 #[.agg #[.int .u64 (whi z), .int .u64 (wlo z)], .int .u64 d] w fun e w' =>
    e = .returned (.int .u64 ((z.natAbs : Int) % d)) ∧ Below w.heap.size w w' := by
  have C1 : Hid (∀ w, Calls Tryd.prog 66 #[.agg #[.int .u64 (whi z), .int .u64 (wlo z)]] w fun e w' => e = .returned (.agg #[.int .u64 (whi (z.natAbs : Int)), .int .u64 (wlo (z.natAbs : Int))]) ∧ Below w.heap.size w w') := Lib.hid fun w => wsize_any z hz w
  have hm127 : In127 (z.natAbs : Int) := by obtain ⟨h1, h2⟩ := hz; unfold In127; omega
  have hb := whi_bd (z.natAbs : Int)
  have em := w_mod (z := (z.natAbs : Int)) (d := d) (by omega) hm127
  have C2 : Hid (∀ w, Calls Tryd.prog 74 #[.int .u64 (whi (z.natAbs : Int)), .int .u64 (wlo (z.natAbs : Int)), .int .u64 d] w fun e w' => e = .returned (.int .u64 ((z.natAbs : Int) % d)) ∧ Below w.heap.size w w') := Lib.hid fun w => by
    have := rem64_any _ _ d ⟨hb.1, by omega⟩ hd HD w
    rwa [em] at this
  clear HD em hz hm hm127 hb
  generalize whi (z.natAbs : Int) = h' at *
  generalize wlo (z.natAbs : Int) = l' at *
  generalize (z.natAbs : Int) % d = r at *
  generalize whi z = h at *
  generalize wlo z = l at *
  go_enter Tryd.func51, Tryd.ntmps51
  go_wp2_with fail
  (with_reducible refine (C1.out _).mono ?_)
  rintro e w1 ⟨rfl, hb⟩
  have hbb := bcall (bnew (Below.refl _ w) _) hb
  clear hb
  go_wp2_with fail
  (with_reducible refine (C2.out _).mono ?_)
  rintro e w2 ⟨rfl, hb⟩
  go_wp2_with fail
  go_ret
  exact ⟨rfl, bcall (bnew hbb _) hb⟩
theorem over_of (z d : Int) (hz : In127 z) (hm : -170141183460469231731687303715884105728 < z) (hd : 0 < d) (hdv : d ∣ z) (HD : DivAt (z.natAbs : Int) d) (w : World) : Calls Tryd.prog 41 #[.agg #[.int .u64 (whi z), .int .u64 (wlo z)], .int .u64 d] w fun e w' =>
    e = .returned (.agg #[.int .u64 (whi (z / d)), .int .u64 (wlo (z / d))]) ∧ Below w.heap.size w w' := by
  have C1 : Hid (∀ w, Calls Tryd.prog 66 #[.agg #[.int .u64 (whi z), .int .u64 (wlo z)]] w fun e w' => e = .returned (.agg #[.int .u64 (whi (z.natAbs : Int)), .int .u64 (wlo (z.natAbs : Int))]) ∧ Below w.heap.size w w') := Lib.hid fun w => wsize_any z hz w
  have CG : Hid (∀ w, Calls Tryd.prog 42 #[.agg #[.int .u64 (whi z), .int .u64 (wlo z)]] w fun e w' => e = .returned (.bool (decide (z < 0))) ∧ Below w.heap.size w w') := Lib.hid fun w => negative_any z hz w
  have hm127 : In127 (z.natAbs : Int) := by obtain ⟨h1, h2⟩ := hz; unfold In127; omega
  obtain ⟨q1, q2⟩ := w_over (z := (z.natAbs : Int)) (d := d) (by omega) hm127 hd
  have CN : Hid (∀ w, Calls Tryd.prog 43 #[.agg #[.int .u64 (whi ((z.natAbs : Int) / d)), .int .u64 (wlo ((z.natAbs : Int) / d))]] w fun e w' => e = .returned (.agg #[.int .u64 (whi (-((z.natAbs : Int) / d))), .int .u64 (wlo (-((z.natAbs : Int) / d)))]) ∧ Below w.heap.size w w') := Lib.hid fun w => wnegated_any _ w
  have CD : Hid (∀ w, Calls Tryd.prog 67 #[.int .u64 (whi (z.natAbs : Int) % d), .int .u64 (wlo (z.natAbs : Int)), .int .u64 d] w fun e w' =>
      e = .returned (.tuple #[.int .u64 (wlo ((z.natAbs : Int) / d)), .int .u64 ((whi (z.natAbs : Int) % d * 18446744073709551616 + wlo (z.natAbs : Int)) % d)]) ∧ Below w.heap.size w w') := Lib.hid fun w => by
    have := HD w
    rwa [← q2] at this
  have HQ : Hid (whi (z.natAbs : Int) / d = whi ((z.natAbs : Int) / d)) := Lib.hid q1.symm
  have hb := whi_bd (z.natAbs : Int)
  have d0 : (d == 0) = false := by simpa using (by omega : d ≠ 0)
  have d00 : 0 ≤ d := by omega
  have hneg : z < 0 → -((z.natAbs : Int) / d) = z / d := by
    intro h
    have : (z.natAbs : Int) = -z := by omega
    rw [this, Int.neg_ediv_of_dvd hdv, Int.neg_neg]
  have hpos : ¬ z < 0 → (z.natAbs : Int) / d = z / d := by
    intro h
    rw [show (z.natAbs : Int) = z by omega]
  have E0 := Lib.hid (⟨hneg, hpos⟩ : _ ∧ _)
  clear HD hz hm hdv q1 q2 hm127 hneg hpos
  obtain ⟨b, hbz⟩ : ∃ b, decide (z < 0) = b := ⟨_, rfl⟩
  have HB : Hid (b = true ↔ z < 0) := Lib.hid (by rw [← hbz]; simp)
  rw [hbz] at CG
  clear hbz
  generalize (whi (z.natAbs : Int) % d * 18446744073709551616 + wlo (z.natAbs : Int)) % d = r at *
  have hi1 := hb.1
  have hi2 := hb.2
  clear hb
  generalize hA : whi (z.natAbs : Int) = A at *
  generalize wlo (z.natAbs : Int) = l' at *
  generalize hmm : (z.natAbs : Int) / d = m at *
  generalize hzz : z / d = y at *
  generalize whi z = h at *
  generalize wlo z = l at *
  have A0 := Lib.hid ((((OwnC.new w #[.int .u64 h, .int .u64 l] 48).old (.cells #[.int .u64 0, .int .u64 0] 48))))
  have A1 := Lib.hid (OwnC.new2 w (.cells #[.int .u64 h, .int .u64 l] 48) #[.int .u64 0, .int .u64 0] 48)
  clear hA hmm hzz
  rw [← Int.tmod_eq_emod_of_nonneg hi1] at CD
  have dne : d ≠ 0 := by omega
  go_enter Tryd.func41, Tryd.ntmps41
  go_wp2_with fail
  (with_reducible refine (C1.out _).mono ?_)
  rintro e w1 ⟨rfl, hb⟩
  have B0 := Lib.hid ((A0.out.below hb).old (.cells #[.int .u64 A, .int .u64 l'] 48))
  have B1 := Lib.hid ((A1.out.below hb).old (.cells #[.int .u64 A, .int .u64 l'] 48))
  have BU := Lib.hid (OwnC.new w1 #[.int .u64 A, .int .u64 l'] 48)
  have hbb := bnew (bcall (bnew (bnew (Below.refl _ w) _) _) hb) (.cells #[.int .u64 A, .int .u64 l'] 48)
  clear hb A0 A1 C1
  go_upto_region 3 with fail
  generalize (w1.alloc (.cells #[.int .u64 A, .int .u64 l'] 48)) = w3 at *
  go_cut [7] (fun s wx => s = .int .u64 (wlo m) ∧ Below w3.heap.size w3 wx)
  case first =>
    go_region_held3 (fun w' => w'.cell? ⟨w1.heap.size, 0, none⟩ = some (.int .u64 A) ∧ w'.cell? ⟨w1.heap.size, 1, none⟩ = some (.int .u64 l') ∧ Below w3.heap.size w3 w')
      ((refine mkU BU ?_; repeat' first | (with_reducible assumption) | (with_reducible exact Below.refl _ _) | (with_reducible refine Below.drew ?_)))
      ((go_at_call 67; (with_reducible refine (CD.out _).mono ?_); rintro e w' ⟨rfl, hb⟩; have hbb := bcall (getU (by assumption)) hb; clear hb))
    all_goals go_wp2_with fail
    all_goals go_meet
    all_goals refine ⟨rfl, ?_⟩
    all_goals (repeat' first | (with_reducible assumption) | (with_reducible exact Below.refl _ _) | (with_reducible refine Below.drew ?_))
  case rest =>
    obtain ⟨rfl, hbx⟩ := hcut
    have hbc := bcall hbb hbx
    have D0 := Lib.hid (B0.out.below hbx)
    have D1 := Lib.hid (B1.out.below hbx)
    obtain ⟨⟨c0, c1⟩, ⟨c2, c3⟩, c4⟩ := D0.out.two
    clear hbx hbb B0 B1 BU
    go_wp2_with fail
    (with_reducible refine (CG.out _).mono ?_)
    rintro e w4 ⟨rfl, hb⟩
    have G1 := Lib.hid (D1.out.below hb)
    have hbd := bcall hbc hb
    clear hb hbc D0 D1 c0 c1 c2 c3 c4 CG
    rcases b with _ | _
    · have e1 : m = y := E0.out.2 (by have := HB.out; simpa using this)
      obtain ⟨⟨c0, c1⟩, ⟨c2, c3⟩, c4⟩ := G1.out.two
      go_wp2_with fail
      refine bodyPost_ret (v := .agg #[.int .u64 (whi y), .int .u64 (wlo y)]) ?_ rfl ⟨rfl, ?_⟩
      · rw [← e1, ← HQ.out]
        simp [results, Tryd.results41, go_sem, *]
      · repeat' first | (with_reducible assumption) | (with_reducible refine setB ?_ ?_) | omega
    · have e1 : -m = y := E0.out.1 (by have := HB.out; simpa using this)
      rw [e1, ← HQ.out] at CN
      go_wp2_with fail
      (with_reducible refine (CN.out _).mono ?_)
      rintro e w5 ⟨rfl, hb⟩
      obtain ⟨⟨c0, c1⟩, ⟨c2, c3⟩, c4⟩ := (G1.out.below hb).two
      have hbe := bcall hbd hb
      go_wp2_with fail
      refine bodyPost_ret (v := .agg #[.int .u64 (whi y), .int .u64 (wlo y)]) ?_ rfl ⟨rfl, ?_⟩
      · simp [results, Tryd.results41, go_sem, *]
      · repeat' first | (with_reducible assumption) | (with_reducible refine setB ?_ ?_) | omega
end Go.Proofs.YtinnlahmlepeeaaDoor
