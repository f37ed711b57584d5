/- The reference's greatest common divisor of two sizes; lowest terms; New. -/
import Derived.Test.YtinnlahmlepeeaaDoorFraU
import Derived.RegionTactic
import Derived.Deep.CutBlock
namespace Go.Proofs.YtinnlahmlepeeaaDoor
open Go.RowKit
/-- The number in a box, read off the world. -/
def boxN (n : Nat) (w : World) : Nat := (intOf ((w.cell? ⟨n, 0, none⟩).getD undef) * 18446744073709551616 + intOf ((w.cell? ⟨n, 1, none⟩).getD undef)).toNat
theorem boxN_of {n : Nat} {w : World} {b : Int} {t : Bool} (h : OwnC w n #[.int .u64 (whi b), .int .u64 (wlo b), .bool t]) (h0 : 0 ≤ b) (h1 : b < 340282366920938463463374607431768211456) : boxN n w = b.toNat := by
  have c := h.three
  unfold boxN
  rw [c.1.1, c.1.2.1]
  show (whi b * 18446744073709551616 + wlo b).toNat = b.toNat
  unfold whi wlo
  omega
set_option maxHeartbeats 4000000 in
theorem rcommon_any (x y : Int) (s t : Bool) (g : Nat) (HG : Hid (Nat.gcd x.natAbs y.natAbs = g)) (hx : 0 ≤ x) (hx2 : x < 170141183460469231731687303715884105728) (hy : 0 ≤ y) (hy2 : y < 170141183460469231731687303715884105728) (w : World) :
    Calls Tryd.prog 71 #[.agg #[.int .u64 (whi x), .int .u64 (wlo x), .bool s], .agg #[.int .u64 (whi y), .int .u64 (wlo y), .bool t]] w fun e w' => e = .returned (.agg #[.int .u64 (whi (g : Int)), .int .u64 (wlo (g : Int)), .bool false]) ∧ Below w.heap.size w w' := by
  have CZ : Hid (∀ b : Int, ∀ t : Bool, 0 ≤ b → b < 170141183460469231731687303715884105728 → ∀ w, Calls Tryd.prog 58 #[.agg #[.int .u64 (whi b), .int .u64 (wlo b), .bool t]] w fun e w' => e = .returned (.bool (decide (b = 0))) ∧ Below w.heap.size w w') := Lib.hid fun b t h1 h2 w => rzero_any b ⟨h1, by omega⟩ t w
  have CD : Hid (∀ a b : Int, ∀ s t : Bool, 0 ≤ a → a < 170141183460469231731687303715884105728 → 0 < b → b < 170141183460469231731687303715884105728 → ∀ w, Calls Tryd.prog 72 #[.agg #[.int .u64 (whi a), .int .u64 (wlo a), .bool s], .agg #[.int .u64 (whi b), .int .u64 (wlo b), .bool t]] w fun e w' => e = .returned (.tuple #[.agg #[.int .u64 (whi (a / b)), .int .u64 (wlo (a / b)), .bool false], .agg #[.int .u64 (whi (a % b)), .int .u64 (wlo (a % b)), .bool false]]) ∧ Below w.heap.size w w') := Lib.hid fun a b s t h1 h2 h3 h4 w => rdivide_any a b s t ⟨h1, by omega⟩ h3 h4 w
  go_enter Tryd.func71, Tryd.ntmps71
  go_wp2_with fail
  have H0 := Lib.hid (((OwnC.new w #[.int .u64 (whi x), .int .u64 (wlo x), .bool s] 54).old (.cells #[.int .u64 (whi y), .int .u64 (wlo y), .bool t] 54)).old (.cells #[.int .u64 0, .int .u64 0, .bool false] 54))
  have H1 := Lib.hid ((OwnC.new2 w (.cells #[.int .u64 (whi x), .int .u64 (wlo x), .bool s] 54) #[.int .u64 (whi y), .int .u64 (wlo y), .bool t] 54).old (.cells #[.int .u64 0, .int .u64 0, .bool false] 54))
  have H2 := Lib.hid (OwnC.new3 w (.cells #[.int .u64 (whi x), .int .u64 (wlo x), .bool s] 54) (.cells #[.int .u64 (whi y), .int .u64 (wlo y), .bool t] 54) #[.int .u64 0, .int .u64 0, .bool false] 54)
  have HB := bnew (bnew (bnew (Below.refl _ w) (.cells #[.int .u64 (whi x), .int .u64 (wlo x), .bool s] 54)) (.cells #[.int .u64 (whi y), .int .u64 (wlo y), .bool t] 54)) (.cells #[.int .u64 0, .int .u64 0, .bool false] 54)
  generalize (((w.alloc (.cells #[.int .u64 (whi x), .int .u64 (wlo x), .bool s] 54)).alloc (.cells #[.int .u64 (whi y), .int .u64 (wlo y), .bool t] 54)).alloc (.cells #[.int .u64 0, .int .u64 0, .bool false] 54)) = w3 at *
  have n01 : w.heap.size + 1 ≠ w.heap.size := by omega
  have n10 : w.heap.size ≠ w.heap.size + 1 := by omega
  have n02 : w.heap.size ≠ w.heap.size + 1 + 1 := by omega
  have n12 : w.heap.size + 1 ≠ w.heap.size + 1 + 1 := by omega
  go_loopw [] (fun wr => ∃ (a b : Int) (s t : Bool), 0 ≤ a ∧ a < 170141183460469231731687303715884105728 ∧ 0 ≤ b ∧ b < 170141183460469231731687303715884105728 ∧ Nat.gcd a.natAbs b.natAbs = g ∧ OwnC wr w.heap.size #[.int .u64 (whi a), .int .u64 (wlo a), .bool s] ∧ OwnC wr (w.heap.size + 1) #[.int .u64 (whi b), .int .u64 (wlo b), .bool t] ∧ OwnC wr (w.heap.size + 1 + 1) #[.int .u64 0, .int .u64 0, .bool false] ∧ Below w.heap.size w wr) (fun wr => boxN (w.heap.size + 1) wr)
  case atStart => exact ⟨x, y, s, t, hx, hx2, hy, hy2, HG.out, H0.out, H1.out, H2.out, HB⟩
  case round =>
    obtain ⟨a, b, s, t, ha, ha2, hb0, hb2, hg, K0, K1, K2, KB⟩ := hrel
    have HK := Lib.hid hg
    have Q0 := Lib.hid K0
    have Q1 := Lib.hid K1
    have Q2 := Lib.hid K2
    have CZb := Lib.hid (CZ.out b t hb0 hb2)
    have HBX := Lib.hid (boxN_of K1 hb0 (by omega))
    obtain ⟨⟨y1, y2, y3⟩, ⟨y4, y5, y6⟩, y7⟩ := K1.three
    clear K0 K1 K2 hg CZ HG H0 H1 H2
    by_cases hz : b = 0
    · subst hz
      rw [show decide ((0 : Int) = 0) = true from rfl] at CZb
      have ga : g = a.natAbs := by rw [← HK.out]; simp
      have ea : (g : Int) = a := by omega
      have EA := Lib.hid ea
      clear ga ea CD HBX
      go_wp2_with fail
      (with_reducible refine (CZb.out _).mono ?_)
      rintro e w4 ⟨rfl, hb⟩
      obtain ⟨⟨x1, x2, x3⟩, ⟨x4, x5, x6⟩, x7⟩ := (Q0.out.below hb).three
      obtain ⟨⟨z1, z2, z3⟩, ⟨z4, z5, z6⟩, z7⟩ := (Q2.out.below hb).three
      have KC := bcall KB hb
      clear hb Q0 Q1 Q2 CZb y1 y2 y3 y4 y5 y6 y7
      go_wp2_with fail
      refine bodyPost_ret (v := .agg #[.int .u64 (whi a), .int .u64 (wlo a), .bool false]) ?_ rfl ⟨by rw [EA.out], ?_⟩
      · simp [results, Tryd.results71, go_sem, *]
      · repeat' first | (with_reducible assumption) | (with_reducible refine setB ?_ ?_) | omega
    · rw [show decide (b = 0) = false by simpa using hz] at CZb
      have CDb := Lib.hid (CD.out a b s t ha ha2 (by omega) hb2)
      have m0 := Int.emod_nonneg a hz
      have m1 := Int.emod_lt_of_pos a (show 0 < b by omega)
      have H3 : Hid (Nat.gcd b.natAbs (a % b).natAbs = g) := Lib.hid (by
        rw [Int.natAbs_emod_of_nonneg ha, Nat.gcd_comm, ← Nat.gcd_rec, Nat.gcd_comm]; exact HK.out)
      clear CD HK
      go_wp2_with fail
      (with_reducible refine (CZb.out _).mono ?_)
      rintro e w4 ⟨rfl, hb⟩
      have P0 := Lib.hid (Q0.out.below hb)
      have P1 := Lib.hid (Q1.out.below hb)
      have P2 := Lib.hid (Q2.out.below hb)
      have KC := bcall KB hb
      obtain ⟨⟨x1, x2, x3⟩, ⟨x4, x5, x6⟩, x7⟩ := P0.out.three
      clear hb y1 y2 y3 y4 y5 y6 y7 Q0 Q1 Q2 KB
      obtain ⟨⟨y1, y2, y3⟩, ⟨y4, y5, y6⟩, y7⟩ := P1.out.three
      go_wp2_with fail
      (with_reducible refine (CDb.out _).mono ?_)
      rintro e w5 ⟨rfl, hb⟩
      have N0 := Lib.hid (((P0.out.below hb).old (.cells #[.int .u64 (whi (a / b)), .int .u64 (wlo (a / b)), .bool false] 54)).old (.cells #[.int .u64 (whi (a % b)), .int .u64 (wlo (a % b)), .bool false] 54))
      have N1 := Lib.hid (((P1.out.below hb).old (.cells #[.int .u64 (whi (a / b)), .int .u64 (wlo (a / b)), .bool false] 54)).old (.cells #[.int .u64 (whi (a % b)), .int .u64 (wlo (a % b)), .bool false] 54))
      have N2 := Lib.hid (((P2.out.below hb).old (.cells #[.int .u64 (whi (a / b)), .int .u64 (wlo (a / b)), .bool false] 54)).old (.cells #[.int .u64 (whi (a % b)), .int .u64 (wlo (a % b)), .bool false] 54))
      have NM := Lib.hid (OwnC.new2 w5 (.cells #[.int .u64 (whi (a / b)), .int .u64 (wlo (a / b)), .bool false] 54) #[.int .u64 (whi (a % b)), .int .u64 (wlo (a % b)), .bool false] 54)
      have KD := bnew (bnew (bcall KC hb) (.cells #[.int .u64 (whi (a / b)), .int .u64 (wlo (a / b)), .bool false] 54)) (.cells #[.int .u64 (whi (a % b)), .int .u64 (wlo (a % b)), .bool false] 54)
      have hnn : w.heap.size + 1 < w5.heap.size := (P1.out.below hb).2.2
      clear hb P0 P1 P2 KC x1 x2 x3 x4 x5 x6 x7 y1 y2 y3 y4 y5 y6 y7 CZb CDb
      go_upto_region 3 with fail
      generalize hnm : w5.heap.size + 1 = nm at *
      generalize ((w5.alloc (.cells #[.int .u64 (whi (a / b)), .int .u64 (wlo (a / b)), .bool false] 54)).alloc (.cells #[.int .u64 (whi (a % b)), .int .u64 (wlo (a % b)), .bool false] 54)) = w6 at *
      obtain ⟨⟨x1, x2, x3⟩, ⟨x4, x5, x6⟩, x7⟩ := N0.out.three
      obtain ⟨⟨y1, y2, y3⟩, ⟨y4, y5, y6⟩, y7⟩ := N1.out.three
      obtain ⟨⟨z1, z2, z3⟩, ⟨z4, z5, z6⟩, z7⟩ := NM.out.three
      go_region
      all_goals go_wp2_with fail
      go_roundw
      case rel =>
        refine ⟨b, a % b, t, false, hb0, hb2, m0, by omega, H3.out, OwnC.drew (OwnC.set n01 (OwnC.set n01 (OwnC.set n01 (OwnC.put3 N0.out)))), OwnC.drew (OwnC.put3 (OwnC.set n10 (OwnC.set n10 (OwnC.set n10 N1.out)))), OwnC.drew (OwnC.set n12 (OwnC.set n12 (OwnC.set n12 (OwnC.set n02 (OwnC.set n02 (OwnC.set n02 N2.out)))))), ?_⟩
        repeat' first | (with_reducible assumption) | (with_reducible refine Below.drew ?_) | (with_reducible refine setB ?_ ?_) | omega
      case measure =>
        rw [HBX.out, boxN_of (OwnC.drew (OwnC.put3 (OwnC.set n10 (OwnC.set n10 (OwnC.set n10 N1.out))))) m0 (by omega)]
        omega
/-- The reference's answer: the numerator's size n with its sign, over d. -/
def lowR (n : Int) (s : Bool) (d : Int) : F2 × Int := if n < 1000000000000000000 ∧ d < 1000000000000000000 then ((if s then -n else n, d), 0) else ((0, 0), 6)
theorem lowR_of {z y : Int} (hy : 0 < y) {g : Nat} (hg : Nat.gcd y.natAbs z.natAbs = g) (s : Bool) (hs : (z < 0 → s = true) ∧ (0 < z → s = false)) : lowR ((z.natAbs : Int) / g) s (y / g) = ratR (Rat.divInt z y) := by
  obtain ⟨e1, e2⟩ := reduced_of (z := z) hy (g := g) (by rw [Nat.gcd_comm]; exact hg)
  have hg0 : 0 < g := by rw [← hg]; exact Nat.gcd_pos_of_pos_left _ (by omega)
  have d1 : (g : Int) ∣ z := by rw [← hg]; exact Int.ofNat_dvd_left.2 (Nat.gcd_dvd_right _ _)
  have hden := (Rat.divInt z y).den_nz
  have e3 : (if s then -((z.natAbs : Int) / g) else (z.natAbs : Int) / g) = z / g := by
    rcases Int.lt_trichotomy z 0 with h | h | h
    · rw [hs.1 h, if_pos rfl, show (z.natAbs : Int) = -z by omega, Int.neg_ediv_of_dvd d1, Int.neg_neg]
    · subst h; simp
    · rw [hs.2 h, if_neg (by decide), show (z.natAbs : Int) = z by omega]
  unfold lowR ratR ofQ
  have hn : ((z.natAbs : Int) / g < 1000000000000000000) ↔ (-1000000000000000000 < z / g ∧ z / g < 1000000000000000000) := by
    have h0 : 0 ≤ (z.natAbs : Int) / g := Int.ediv_nonneg (by omega) (by omega)
    rw [← e3]
    rcases s with _ | _
    · rw [if_neg (by decide)]; omega
    · rw [if_pos rfl]; omega
  by_cases hc : (z.natAbs : Int) / g < 1000000000000000000 ∧ y / g < 1000000000000000000
  · rw [if_pos hc, if_pos (show Fits _ from ⟨by rw [e1]; exact (hn.1 hc.1).1, by rw [e1]; exact (hn.1 hc.1).2, by rw [e2]; exact hc.2⟩), e1, e2, e3]
  · rw [if_neg hc, if_neg (fun h : Fits _ => hc ⟨hn.2 ⟨by rw [← e1]; exact h.1, by rw [← e1]; exact h.2.1⟩, by rw [← e2]; exact h.2.2⟩)]
set_option maxHeartbeats 4000000 in
theorem rlowest_any (n : Int) (s : Bool) (d : Int) (t : Bool) (g : Nat) (hg : Nat.gcd d.natAbs n.natAbs = g) (hn : 0 ≤ n) (hn2 : n < 170141183460469231731687303715884105728) (hd : 0 < d) (hd2 : d < 170141183460469231731687303715884105728) (w : World) :
    Calls Tryd.prog 46 #[.agg #[.int .u64 (whi n), .int .u64 (wlo n), .bool s], .agg #[.int .u64 (whi d), .int .u64 (wlo d), .bool t]] w fun e w' => e = .returned (.tuple #[.agg #[.int .i64 (lowR (n / g) s (d / g)).1.1, .int .i64 (lowR (n / g) s (d / g)).1.2], .int .i64 (lowR (n / g) s (d / g)).2]) ∧ Below w.heap.size w w' := by
  have g0 : 0 < g := by rw [← hg]; exact Nat.gcd_pos_of_pos_left _ (by omega)
  have gl : g ≤ d.natAbs := by rw [← hg]; exact Nat.gcd_le_left _ (by omega)
  have a0 : 0 ≤ n / g := Int.ediv_nonneg hn (by omega)
  have a1 : n / g ≤ n := Int.ediv_le_self _ hn
  have b0 : 0 ≤ d / g := Int.ediv_nonneg (by omega) (by omega)
  have b1 : d / g ≤ d := Int.ediv_le_self _ (by omega)
  have k1 : n / g < 1000000000000000000 ↔ whi (n / g) = 0 ∧ wlo (n / g) < 1000000000000000000 := (w_fits a0 ⟨by omega, by omega⟩).symm
  have k2 : d / g < 1000000000000000000 ↔ whi (d / g) = 0 ∧ wlo (d / g) < 1000000000000000000 := (w_fits b0 ⟨by omega, by omega⟩).symm
  have l1 : n / g < 1000000000000000000 → wlo (n / g) = n / g := fun h => by unfold wlo; omega
  have l2 : d / g < 1000000000000000000 → wlo (d / g) = d / g := fun h => by unfold wlo; omega
  have u1 := whi_bd (n / g)
  have u2 := whi_bd (d / g)
  have u3 := wlo_bd (n / g)
  have u4 := wlo_bd (d / g)
  have CC : Hid (∀ w, Calls Tryd.prog 71 #[.agg #[.int .u64 (whi d), .int .u64 (wlo d), .bool t], .agg #[.int .u64 (whi n), .int .u64 (wlo n), .bool false]] w fun e w' => e = .returned (.agg #[.int .u64 (whi (g : Int)), .int .u64 (wlo (g : Int)), .bool false]) ∧ Below w.heap.size w w') := Lib.hid fun w => rcommon_any d n t false g (Lib.hid hg) (by omega) hd2 hn hn2 w
  have D1 : Hid (∀ w, Calls Tryd.prog 72 #[.agg #[.int .u64 (whi n), .int .u64 (wlo n), .bool s], .agg #[.int .u64 (whi (g : Int)), .int .u64 (wlo (g : Int)), .bool false]] w fun e w' => e = .returned (.tuple #[.agg #[.int .u64 (whi (n / g)), .int .u64 (wlo (n / g)), .bool false], .agg #[.int .u64 (whi (n % g)), .int .u64 (wlo (n % g)), .bool false]]) ∧ Below w.heap.size w w') := Lib.hid fun w => rdivide_any n g s false ⟨hn, by omega⟩ (by omega) (by omega) w
  have D2 : Hid (∀ w, Calls Tryd.prog 72 #[.agg #[.int .u64 (whi d), .int .u64 (wlo d), .bool t], .agg #[.int .u64 (whi (g : Int)), .int .u64 (wlo (g : Int)), .bool false]] w fun e w' => e = .returned (.tuple #[.agg #[.int .u64 (whi (d / g)), .int .u64 (wlo (d / g)), .bool false], .agg #[.int .u64 (whi (d % g)), .int .u64 (wlo (d % g)), .bool false]]) ∧ Below w.heap.size w w') := Lib.hid fun w => rdivide_any d g t false ⟨by omega, by omega⟩ (by omega) (by omega) w
  clear g0 gl a1 b1 hg
  generalize n / (g : Int) = a at *
  generalize d / (g : Int) = b at *
  generalize n % (g : Int) = na at *
  generalize d % (g : Int) = nb at *
  by_cases hc : a < 1000000000000000000 ∧ b < 1000000000000000000
  · have e : lowR a s b = ((if s then -a else a, b), 0) := by unfold lowR; rw [if_pos hc]
    rw [e]
    have v1 := k1.1 hc.1
    have v2 := k2.1 hc.2
    have d1 : decide (0 < whi a) = false := by rw [v1.1]; rfl
    have d2 : decide (0 < whi b) = false := by rw [v2.1]; rfl
    have d3 : decide (1000000000000000000 ≤ wlo a) = false := by simp; omega
    have d4 : decide (1000000000000000000 ≤ wlo b) = false := by simp; omega
    have c1 : IntKind.i64.wrap (wlo a) = a := by rw [l1 hc.1, IntKind.wrap_i64]; omega
    have c2 : IntKind.i64.wrap (wlo b) = b := by rw [l2 hc.2, IntKind.wrap_i64]; omega
    have c3 : wrap64 (0 - a) = -a := by unfold wrap64; omega
    have c4 : IntKind.i64.wrap (0 - a) = -a := by rw [IntKind.wrap_i64]; omega
    have c5 : wrap64 (-a) = -a := by unfold wrap64; omega
    clear k1 k2 l1 l2 hc v1 v2 u1 u2 u3 u4 e
    generalize whi a = a1 at *
    generalize wlo a = a2 at *
    generalize whi b = b1 at *
    generalize wlo b = b2 at *
    generalize whi (g : Int) = g1 at *
    generalize wlo (g : Int) = g2 at *
    rcases s with _ | _
    · go_enter Tryd.func46, Tryd.ntmps46
      go_wp2_with fail
      (with_reducible refine (CC.out _).mono ?_)
      rintro e w1 ⟨rfl, hb⟩
      have H2 := Lib.hid ((((OwnC.new w #[.int .u64 (whi n), .int .u64 (wlo n), .bool false] 54).old (.cells #[.int .u64 (whi d), .int .u64 (wlo d), .bool t] 54)).old (.cells #[.int .i64 0, .int .i64 0] 23)).below hb)
      have H3 := Lib.hid (((OwnC.new2 w (.cells #[.int .u64 (whi n), .int .u64 (wlo n), .bool false] 54) #[.int .u64 (whi d), .int .u64 (wlo d), .bool t] 54).old (.cells #[.int .i64 0, .int .i64 0] 23)).below hb)
      have H4 := Lib.hid ((OwnC.new3 w (.cells #[.int .u64 (whi n), .int .u64 (wlo n), .bool false] 54) (.cells #[.int .u64 (whi d), .int .u64 (wlo d), .bool t] 54) #[.int .i64 0, .int .i64 0] 23).below hb)
      have hb5 := bcall (bnew (bnew (bnew (Below.refl _ w) (.cells #[.int .u64 (whi n), .int .u64 (wlo n), .bool false] 54)) (.cells #[.int .u64 (whi d), .int .u64 (wlo d), .bool t] 54)) (.cells #[.int .i64 0, .int .i64 0] 23)) hb
      clear hb
      obtain ⟨⟨q1, q2, q3⟩, ⟨q4, q5, q6⟩, q7⟩ := H2.out.three
      go_wp2_with fail
      clear q1 q2 q3 q4 q5 q6 q7
      (with_reducible refine (D1.out _).mono ?_)
      rintro e w6 ⟨rfl, hb⟩
      have H7 := Lib.hid (((H2.out).old (.cells #[.int .u64 g1, .int .u64 g2, .bool false] 54)).below hb)
      have H8 := Lib.hid (((H3.out).old (.cells #[.int .u64 g1, .int .u64 g2, .bool false] 54)).below hb)
      have H9 := Lib.hid (((H4.out).old (.cells #[.int .u64 g1, .int .u64 g2, .bool false] 54)).below hb)
      have H10 := Lib.hid ((OwnC.new w1 #[.int .u64 g1, .int .u64 g2, .bool false] 54).below hb)
      have hb11 := bcall (bnew hb5 (.cells #[.int .u64 g1, .int .u64 g2, .bool false] 54)) hb
      clear hb hb5 H2 H3 H4
      obtain ⟨⟨c12, c13, c14⟩, ⟨c15, c16, c17⟩, c18⟩ := H7.out.three
      obtain ⟨⟨c19, c20, c21⟩, ⟨c22, c23, c24⟩, c25⟩ := H8.out.three
      obtain ⟨⟨c26, c27, c28⟩, ⟨c29, c30, c31⟩, c32⟩ := H10.out.three
      go_wp2_with fail
      (with_reducible refine (D2.out _).mono ?_)
      rintro e w33 ⟨rfl, hb⟩
      have H34 := Lib.hid ((((H7.out).old (.cells #[.int .u64 a1, .int .u64 a2, .bool false] 54)).old (.cells #[.int .u64 (whi na), .int .u64 (wlo na), .bool false] 54)).below hb)
      have H35 := Lib.hid ((((H8.out).old (.cells #[.int .u64 a1, .int .u64 a2, .bool false] 54)).old (.cells #[.int .u64 (whi na), .int .u64 (wlo na), .bool false] 54)).below hb)
      have H36 := Lib.hid ((((H9.out).old (.cells #[.int .u64 a1, .int .u64 a2, .bool false] 54)).old (.cells #[.int .u64 (whi na), .int .u64 (wlo na), .bool false] 54)).below hb)
      have H37 := Lib.hid ((((H10.out).old (.cells #[.int .u64 a1, .int .u64 a2, .bool false] 54)).old (.cells #[.int .u64 (whi na), .int .u64 (wlo na), .bool false] 54)).below hb)
      have H38 := Lib.hid (((OwnC.new w6 #[.int .u64 a1, .int .u64 a2, .bool false] 54).old (.cells #[.int .u64 (whi na), .int .u64 (wlo na), .bool false] 54)).below hb)
      have H39 := Lib.hid ((OwnC.new2 w6 (.cells #[.int .u64 a1, .int .u64 a2, .bool false] 54) #[.int .u64 (whi na), .int .u64 (wlo na), .bool false] 54).below hb)
      have hb40 := bcall (bnew (bnew hb11 (.cells #[.int .u64 a1, .int .u64 a2, .bool false] 54)) (.cells #[.int .u64 (whi na), .int .u64 (wlo na), .bool false] 54)) hb
      clear hb hb11 H7 H8 H9 H10 c12 c13 c14 c15 c16 c17 c18 c19 c20 c21 c22 c23 c24 c25 c26 c27 c28 c29 c30 c31 c32
      obtain ⟨⟨c41, c42, c43⟩, ⟨c44, c45, c46⟩, c47⟩ := H38.out.three
      obtain ⟨⟨c48, c49, c50⟩, ⟨c51, c52, c53⟩, c54⟩ := H34.out.three
      obtain ⟨⟨c55, c56⟩, ⟨c57, c58⟩, c59⟩ := H36.out.two
      have tt0 : w.heap.size ≤ w33.heap.size := by omega
      have tt1 : w.heap.size ≤ w33.heap.size + 1 := by omega
      have tt2 : w.heap.size < w33.heap.size + 1 := by omega
      have tt3 : w.heap.size < w33.heap.size + 1 + 1 := by omega
      have tt4 : w.heap.size + 1 + 1 ≤ w33.heap.size := by omega
      have tt5 : w.heap.size + 1 + 1 ≤ w33.heap.size + 1 := by omega
      have tt6 : w.heap.size + 1 + 1 < w33.heap.size + 1 := by omega
      have tt7 : w.heap.size + 1 + 1 < w33.heap.size + 1 + 1 := by omega
      have tt8 : w.heap.size + 1 ≤ w33.heap.size := by omega
      have tt9 : w.heap.size + 1 < w33.heap.size := by omega
      go_wp2_with fail
      refine bodyPost_ret (v := .tuple #[.agg #[.int .i64 (a), .int .i64 b], .int .i64 0]) ?_ rfl ⟨rfl, ?_⟩
      · simp [results, Tryd.results46, go_sem, *]
      · have hBB := (bnew (bnew hb40 (.cells #[.int .u64 b1, .int .u64 b2, .bool false] 54)) (.cells #[.int .u64 (whi nb), .int .u64 (wlo nb), .bool false] 54))
        clear c41 c42 c43 c44 c45 c46 c47 c48 c49 c50 c51 c52 c53 c54 c55 c56 c57 c58 c59 tt0 tt1 tt2 tt3 tt4 tt5 tt6 tt7 tt8 tt9
        repeat' first | (with_reducible assumption) | (with_reducible exact Nat.le_refl _) | (with_reducible refine setB ?_ ?_) | (with_reducible refine Below.drew ?_) | (with_reducible refine bnew ?_ _) | omega
    · go_enter Tryd.func46, Tryd.ntmps46
      go_wp2_with fail
      (with_reducible refine (CC.out _).mono ?_)
      rintro e w60 ⟨rfl, hb⟩
      have H61 := Lib.hid ((((OwnC.new w #[.int .u64 (whi n), .int .u64 (wlo n), .bool true] 54).old (.cells #[.int .u64 (whi d), .int .u64 (wlo d), .bool t] 54)).old (.cells #[.int .i64 0, .int .i64 0] 23)).below hb)
      have H62 := Lib.hid (((OwnC.new2 w (.cells #[.int .u64 (whi n), .int .u64 (wlo n), .bool true] 54) #[.int .u64 (whi d), .int .u64 (wlo d), .bool t] 54).old (.cells #[.int .i64 0, .int .i64 0] 23)).below hb)
      have H63 := Lib.hid ((OwnC.new3 w (.cells #[.int .u64 (whi n), .int .u64 (wlo n), .bool true] 54) (.cells #[.int .u64 (whi d), .int .u64 (wlo d), .bool t] 54) #[.int .i64 0, .int .i64 0] 23).below hb)
      have hb64 := bcall (bnew (bnew (bnew (Below.refl _ w) (.cells #[.int .u64 (whi n), .int .u64 (wlo n), .bool true] 54)) (.cells #[.int .u64 (whi d), .int .u64 (wlo d), .bool t] 54)) (.cells #[.int .i64 0, .int .i64 0] 23)) hb
      clear hb
      obtain ⟨⟨q1, q2, q3⟩, ⟨q4, q5, q6⟩, q7⟩ := H61.out.three
      go_wp2_with fail
      clear q1 q2 q3 q4 q5 q6 q7
      (with_reducible refine (D1.out _).mono ?_)
      rintro e w65 ⟨rfl, hb⟩
      have H66 := Lib.hid (((H61.out).old (.cells #[.int .u64 g1, .int .u64 g2, .bool false] 54)).below hb)
      have H67 := Lib.hid (((H62.out).old (.cells #[.int .u64 g1, .int .u64 g2, .bool false] 54)).below hb)
      have H68 := Lib.hid (((H63.out).old (.cells #[.int .u64 g1, .int .u64 g2, .bool false] 54)).below hb)
      have H69 := Lib.hid ((OwnC.new w60 #[.int .u64 g1, .int .u64 g2, .bool false] 54).below hb)
      have hb70 := bcall (bnew hb64 (.cells #[.int .u64 g1, .int .u64 g2, .bool false] 54)) hb
      clear hb hb64 H61 H62 H63
      obtain ⟨⟨c71, c72, c73⟩, ⟨c74, c75, c76⟩, c77⟩ := H66.out.three
      obtain ⟨⟨c78, c79, c80⟩, ⟨c81, c82, c83⟩, c84⟩ := H67.out.three
      obtain ⟨⟨c85, c86, c87⟩, ⟨c88, c89, c90⟩, c91⟩ := H69.out.three
      go_wp2_with fail
      (with_reducible refine (D2.out _).mono ?_)
      rintro e w92 ⟨rfl, hb⟩
      have H93 := Lib.hid ((((H66.out).old (.cells #[.int .u64 a1, .int .u64 a2, .bool false] 54)).old (.cells #[.int .u64 (whi na), .int .u64 (wlo na), .bool false] 54)).below hb)
      have H94 := Lib.hid ((((H67.out).old (.cells #[.int .u64 a1, .int .u64 a2, .bool false] 54)).old (.cells #[.int .u64 (whi na), .int .u64 (wlo na), .bool false] 54)).below hb)
      have H95 := Lib.hid ((((H68.out).old (.cells #[.int .u64 a1, .int .u64 a2, .bool false] 54)).old (.cells #[.int .u64 (whi na), .int .u64 (wlo na), .bool false] 54)).below hb)
      have H96 := Lib.hid ((((H69.out).old (.cells #[.int .u64 a1, .int .u64 a2, .bool false] 54)).old (.cells #[.int .u64 (whi na), .int .u64 (wlo na), .bool false] 54)).below hb)
      have H97 := Lib.hid (((OwnC.new w65 #[.int .u64 a1, .int .u64 a2, .bool false] 54).old (.cells #[.int .u64 (whi na), .int .u64 (wlo na), .bool false] 54)).below hb)
      have H98 := Lib.hid ((OwnC.new2 w65 (.cells #[.int .u64 a1, .int .u64 a2, .bool false] 54) #[.int .u64 (whi na), .int .u64 (wlo na), .bool false] 54).below hb)
      have hb99 := bcall (bnew (bnew hb70 (.cells #[.int .u64 a1, .int .u64 a2, .bool false] 54)) (.cells #[.int .u64 (whi na), .int .u64 (wlo na), .bool false] 54)) hb
      clear hb hb70 H66 H67 H68 H69 c71 c72 c73 c74 c75 c76 c77 c78 c79 c80 c81 c82 c83 c84 c85 c86 c87 c88 c89 c90 c91
      obtain ⟨⟨c100, c101, c102⟩, ⟨c103, c104, c105⟩, c106⟩ := H97.out.three
      obtain ⟨⟨c107, c108, c109⟩, ⟨c110, c111, c112⟩, c113⟩ := H93.out.three
      obtain ⟨⟨c114, c115⟩, ⟨c116, c117⟩, c118⟩ := H95.out.two
      have tt0 : w.heap.size ≤ w92.heap.size := by omega
      have tt1 : w.heap.size ≤ w92.heap.size + 1 := by omega
      have tt2 : w.heap.size < w92.heap.size + 1 := by omega
      have tt3 : w.heap.size < w92.heap.size + 1 + 1 := by omega
      have tt4 : w.heap.size + 1 + 1 ≤ w92.heap.size := by omega
      have tt5 : w.heap.size + 1 + 1 ≤ w92.heap.size + 1 := by omega
      have tt6 : w.heap.size + 1 + 1 < w92.heap.size + 1 := by omega
      have tt7 : w.heap.size + 1 + 1 < w92.heap.size + 1 + 1 := by omega
      have tt8 : w.heap.size + 1 ≤ w92.heap.size := by omega
      have tt9 : w.heap.size + 1 < w92.heap.size := by omega
      go_wp2_with fail
      refine bodyPost_ret (v := .tuple #[.agg #[.int .i64 (-a), .int .i64 b], .int .i64 0]) ?_ rfl ⟨rfl, ?_⟩
      · simp [results, Tryd.results46, go_sem, *]
      · have hBB := (bnew (bnew hb99 (.cells #[.int .u64 b1, .int .u64 b2, .bool false] 54)) (.cells #[.int .u64 (whi nb), .int .u64 (wlo nb), .bool false] 54))
        clear c100 c101 c102 c103 c104 c105 c106 c107 c108 c109 c110 c111 c112 c113 c114 c115 c116 c117 c118 tt0 tt1 tt2 tt3 tt4 tt5 tt6 tt7 tt8 tt9
        repeat' first | (with_reducible assumption) | (with_reducible exact Nat.le_refl _) | (with_reducible refine setB ?_ ?_) | (with_reducible refine Below.drew ?_) | (with_reducible refine bnew ?_ _) | omega
  · have e : lowR a s b = ((0, 0), 6) := by unfold lowR; rw [if_neg hc]
    rw [e]
    have hc' : decide (0 < whi a) = true ∨ (decide (0 < whi a) = false ∧ decide (1000000000000000000 ≤ wlo a) = true) ∨ (decide (0 < whi a) = false ∧ decide (1000000000000000000 ≤ wlo a) = false ∧ decide (0 < whi b) = true) ∨ (decide (0 < whi a) = false ∧ decide (1000000000000000000 ≤ wlo a) = false ∧ decide (0 < whi b) = false ∧ decide (1000000000000000000 ≤ wlo b) = true) := by
      simp only [decide_eq_true_eq, decide_eq_false_iff_not]
      omega
    clear k1 k2 l1 l2 hc u1 u2 u3 u4 e
    generalize whi a = a1 at *
    generalize wlo a = a2 at *
    generalize whi b = b1 at *
    generalize wlo b = b2 at *
    generalize whi (g : Int) = g1 at *
    generalize wlo (g : Int) = g2 at *
    rcases hc' with h1 | ⟨h1, h2⟩ | ⟨h1, h2, h3⟩ | ⟨h1, h2, h3, h4⟩
    · go_enter Tryd.func46, Tryd.ntmps46
      go_wp2_with fail
      (with_reducible refine (CC.out _).mono ?_)
      rintro e w119 ⟨rfl, hb⟩
      have H120 := Lib.hid ((((OwnC.new w #[.int .u64 (whi n), .int .u64 (wlo n), .bool s] 54).old (.cells #[.int .u64 (whi d), .int .u64 (wlo d), .bool t] 54)).old (.cells #[.int .i64 0, .int .i64 0] 23)).below hb)
      have H121 := Lib.hid (((OwnC.new2 w (.cells #[.int .u64 (whi n), .int .u64 (wlo n), .bool s] 54) #[.int .u64 (whi d), .int .u64 (wlo d), .bool t] 54).old (.cells #[.int .i64 0, .int .i64 0] 23)).below hb)
      have H122 := Lib.hid ((OwnC.new3 w (.cells #[.int .u64 (whi n), .int .u64 (wlo n), .bool s] 54) (.cells #[.int .u64 (whi d), .int .u64 (wlo d), .bool t] 54) #[.int .i64 0, .int .i64 0] 23).below hb)
      have hb123 := bcall (bnew (bnew (bnew (Below.refl _ w) (.cells #[.int .u64 (whi n), .int .u64 (wlo n), .bool s] 54)) (.cells #[.int .u64 (whi d), .int .u64 (wlo d), .bool t] 54)) (.cells #[.int .i64 0, .int .i64 0] 23)) hb
      clear hb
      obtain ⟨⟨q1, q2, q3⟩, ⟨q4, q5, q6⟩, q7⟩ := H120.out.three
      go_wp2_with fail
      clear q1 q2 q3 q4 q5 q6 q7
      (with_reducible refine (D1.out _).mono ?_)
      rintro e w124 ⟨rfl, hb⟩
      have H125 := Lib.hid (((H120.out).old (.cells #[.int .u64 g1, .int .u64 g2, .bool false] 54)).below hb)
      have H126 := Lib.hid (((H121.out).old (.cells #[.int .u64 g1, .int .u64 g2, .bool false] 54)).below hb)
      have H127 := Lib.hid (((H122.out).old (.cells #[.int .u64 g1, .int .u64 g2, .bool false] 54)).below hb)
      have H128 := Lib.hid ((OwnC.new w119 #[.int .u64 g1, .int .u64 g2, .bool false] 54).below hb)
      have hb129 := bcall (bnew hb123 (.cells #[.int .u64 g1, .int .u64 g2, .bool false] 54)) hb
      clear hb hb123 H120 H121 H122
      obtain ⟨⟨c130, c131, c132⟩, ⟨c133, c134, c135⟩, c136⟩ := H125.out.three
      obtain ⟨⟨c137, c138, c139⟩, ⟨c140, c141, c142⟩, c143⟩ := H126.out.three
      obtain ⟨⟨c144, c145, c146⟩, ⟨c147, c148, c149⟩, c150⟩ := H128.out.three
      go_wp2_with fail
      (with_reducible refine (D2.out _).mono ?_)
      rintro e w151 ⟨rfl, hb⟩
      have H152 := Lib.hid ((((H125.out).old (.cells #[.int .u64 a1, .int .u64 a2, .bool false] 54)).old (.cells #[.int .u64 (whi na), .int .u64 (wlo na), .bool false] 54)).below hb)
      have H153 := Lib.hid ((((H126.out).old (.cells #[.int .u64 a1, .int .u64 a2, .bool false] 54)).old (.cells #[.int .u64 (whi na), .int .u64 (wlo na), .bool false] 54)).below hb)
      have H154 := Lib.hid ((((H127.out).old (.cells #[.int .u64 a1, .int .u64 a2, .bool false] 54)).old (.cells #[.int .u64 (whi na), .int .u64 (wlo na), .bool false] 54)).below hb)
      have H155 := Lib.hid ((((H128.out).old (.cells #[.int .u64 a1, .int .u64 a2, .bool false] 54)).old (.cells #[.int .u64 (whi na), .int .u64 (wlo na), .bool false] 54)).below hb)
      have H156 := Lib.hid (((OwnC.new w124 #[.int .u64 a1, .int .u64 a2, .bool false] 54).old (.cells #[.int .u64 (whi na), .int .u64 (wlo na), .bool false] 54)).below hb)
      have H157 := Lib.hid ((OwnC.new2 w124 (.cells #[.int .u64 a1, .int .u64 a2, .bool false] 54) #[.int .u64 (whi na), .int .u64 (wlo na), .bool false] 54).below hb)
      have hb158 := bcall (bnew (bnew hb129 (.cells #[.int .u64 a1, .int .u64 a2, .bool false] 54)) (.cells #[.int .u64 (whi na), .int .u64 (wlo na), .bool false] 54)) hb
      clear hb hb129 H125 H126 H127 H128 c130 c131 c132 c133 c134 c135 c136 c137 c138 c139 c140 c141 c142 c143 c144 c145 c146 c147 c148 c149 c150
      obtain ⟨⟨c159, c160, c161⟩, ⟨c162, c163, c164⟩, c165⟩ := H156.out.three
      obtain ⟨⟨c166, c167, c168⟩, ⟨c169, c170, c171⟩, c172⟩ := H152.out.three
      obtain ⟨⟨c173, c174⟩, ⟨c175, c176⟩, c177⟩ := H154.out.two
      have tt0 : w.heap.size ≤ w151.heap.size := by omega
      have tt1 : w.heap.size ≤ w151.heap.size + 1 := by omega
      have tt2 : w.heap.size < w151.heap.size + 1 := by omega
      have tt3 : w.heap.size < w151.heap.size + 1 + 1 := by omega
      have tt4 : w.heap.size + 1 ≤ w151.heap.size := by omega
      have tt5 : w.heap.size + 1 < w151.heap.size := by omega
      have tt6 : w.heap.size + 1 < w151.heap.size + 1 := by omega
      have tt7 : w.heap.size + 1 + 1 ≤ w151.heap.size := by omega
      have tt8 : w.heap.size + 1 + 1 < w151.heap.size + 1 := by omega
      have tt9 : w.heap.size + 1 ≤ w151.heap.size + 1 := by omega
      go_wp2_with fail
      refine bodyPost_ret (v := .tuple #[.agg #[.int .i64 0, .int .i64 0], .int .i64 6]) ?_ rfl ⟨rfl, ?_⟩
      · simp [results, Tryd.results46, go_sem, *]
      · have hBB := (bnew (bnew hb158 (.cells #[.int .u64 b1, .int .u64 b2, .bool false] 54)) (.cells #[.int .u64 (whi nb), .int .u64 (wlo nb), .bool false] 54))
        clear c159 c160 c161 c162 c163 c164 c165 c166 c167 c168 c169 c170 c171 c172 c173 c174 c175 c176 c177 tt0 tt1 tt2 tt3 tt4 tt5 tt6 tt7 tt8 tt9
        repeat' first | (with_reducible assumption) | (with_reducible exact Nat.le_refl _) | (with_reducible refine setB ?_ ?_) | (with_reducible refine Below.drew ?_) | (with_reducible refine bnew ?_ _) | omega
    · go_enter Tryd.func46, Tryd.ntmps46
      go_wp2_with fail
      (with_reducible refine (CC.out _).mono ?_)
      rintro e w178 ⟨rfl, hb⟩
      have H179 := Lib.hid ((((OwnC.new w #[.int .u64 (whi n), .int .u64 (wlo n), .bool s] 54).old (.cells #[.int .u64 (whi d), .int .u64 (wlo d), .bool t] 54)).old (.cells #[.int .i64 0, .int .i64 0] 23)).below hb)
      have H180 := Lib.hid (((OwnC.new2 w (.cells #[.int .u64 (whi n), .int .u64 (wlo n), .bool s] 54) #[.int .u64 (whi d), .int .u64 (wlo d), .bool t] 54).old (.cells #[.int .i64 0, .int .i64 0] 23)).below hb)
      have H181 := Lib.hid ((OwnC.new3 w (.cells #[.int .u64 (whi n), .int .u64 (wlo n), .bool s] 54) (.cells #[.int .u64 (whi d), .int .u64 (wlo d), .bool t] 54) #[.int .i64 0, .int .i64 0] 23).below hb)
      have hb182 := bcall (bnew (bnew (bnew (Below.refl _ w) (.cells #[.int .u64 (whi n), .int .u64 (wlo n), .bool s] 54)) (.cells #[.int .u64 (whi d), .int .u64 (wlo d), .bool t] 54)) (.cells #[.int .i64 0, .int .i64 0] 23)) hb
      clear hb
      obtain ⟨⟨q1, q2, q3⟩, ⟨q4, q5, q6⟩, q7⟩ := H179.out.three
      go_wp2_with fail
      clear q1 q2 q3 q4 q5 q6 q7
      (with_reducible refine (D1.out _).mono ?_)
      rintro e w183 ⟨rfl, hb⟩
      have H184 := Lib.hid (((H179.out).old (.cells #[.int .u64 g1, .int .u64 g2, .bool false] 54)).below hb)
      have H185 := Lib.hid (((H180.out).old (.cells #[.int .u64 g1, .int .u64 g2, .bool false] 54)).below hb)
      have H186 := Lib.hid (((H181.out).old (.cells #[.int .u64 g1, .int .u64 g2, .bool false] 54)).below hb)
      have H187 := Lib.hid ((OwnC.new w178 #[.int .u64 g1, .int .u64 g2, .bool false] 54).below hb)
      have hb188 := bcall (bnew hb182 (.cells #[.int .u64 g1, .int .u64 g2, .bool false] 54)) hb
      clear hb hb182 H179 H180 H181
      obtain ⟨⟨c189, c190, c191⟩, ⟨c192, c193, c194⟩, c195⟩ := H184.out.three
      obtain ⟨⟨c196, c197, c198⟩, ⟨c199, c200, c201⟩, c202⟩ := H185.out.three
      obtain ⟨⟨c203, c204, c205⟩, ⟨c206, c207, c208⟩, c209⟩ := H187.out.three
      go_wp2_with fail
      (with_reducible refine (D2.out _).mono ?_)
      rintro e w210 ⟨rfl, hb⟩
      have H211 := Lib.hid ((((H184.out).old (.cells #[.int .u64 a1, .int .u64 a2, .bool false] 54)).old (.cells #[.int .u64 (whi na), .int .u64 (wlo na), .bool false] 54)).below hb)
      have H212 := Lib.hid ((((H185.out).old (.cells #[.int .u64 a1, .int .u64 a2, .bool false] 54)).old (.cells #[.int .u64 (whi na), .int .u64 (wlo na), .bool false] 54)).below hb)
      have H213 := Lib.hid ((((H186.out).old (.cells #[.int .u64 a1, .int .u64 a2, .bool false] 54)).old (.cells #[.int .u64 (whi na), .int .u64 (wlo na), .bool false] 54)).below hb)
      have H214 := Lib.hid ((((H187.out).old (.cells #[.int .u64 a1, .int .u64 a2, .bool false] 54)).old (.cells #[.int .u64 (whi na), .int .u64 (wlo na), .bool false] 54)).below hb)
      have H215 := Lib.hid (((OwnC.new w183 #[.int .u64 a1, .int .u64 a2, .bool false] 54).old (.cells #[.int .u64 (whi na), .int .u64 (wlo na), .bool false] 54)).below hb)
      have H216 := Lib.hid ((OwnC.new2 w183 (.cells #[.int .u64 a1, .int .u64 a2, .bool false] 54) #[.int .u64 (whi na), .int .u64 (wlo na), .bool false] 54).below hb)
      have hb217 := bcall (bnew (bnew hb188 (.cells #[.int .u64 a1, .int .u64 a2, .bool false] 54)) (.cells #[.int .u64 (whi na), .int .u64 (wlo na), .bool false] 54)) hb
      clear hb hb188 H184 H185 H186 H187 c189 c190 c191 c192 c193 c194 c195 c196 c197 c198 c199 c200 c201 c202 c203 c204 c205 c206 c207 c208 c209
      obtain ⟨⟨c218, c219, c220⟩, ⟨c221, c222, c223⟩, c224⟩ := H215.out.three
      obtain ⟨⟨c225, c226, c227⟩, ⟨c228, c229, c230⟩, c231⟩ := H211.out.three
      obtain ⟨⟨c232, c233⟩, ⟨c234, c235⟩, c236⟩ := H213.out.two
      have tt0 : w.heap.size ≤ w210.heap.size := by omega
      have tt1 : w.heap.size ≤ w210.heap.size + 1 := by omega
      have tt2 : w.heap.size < w210.heap.size + 1 := by omega
      have tt3 : w.heap.size < w210.heap.size + 1 + 1 := by omega
      have tt4 : w.heap.size + 1 ≤ w210.heap.size := by omega
      have tt5 : w.heap.size + 1 < w210.heap.size := by omega
      have tt6 : w.heap.size + 1 < w210.heap.size + 1 := by omega
      have tt7 : w.heap.size + 1 + 1 ≤ w210.heap.size := by omega
      have tt8 : w.heap.size + 1 + 1 < w210.heap.size + 1 := by omega
      have tt9 : w.heap.size + 1 ≤ w210.heap.size + 1 := by omega
      go_wp2_with fail
      refine bodyPost_ret (v := .tuple #[.agg #[.int .i64 0, .int .i64 0], .int .i64 6]) ?_ rfl ⟨rfl, ?_⟩
      · simp [results, Tryd.results46, go_sem, *]
      · have hBB := (bnew (bnew hb217 (.cells #[.int .u64 b1, .int .u64 b2, .bool false] 54)) (.cells #[.int .u64 (whi nb), .int .u64 (wlo nb), .bool false] 54))
        clear c218 c219 c220 c221 c222 c223 c224 c225 c226 c227 c228 c229 c230 c231 c232 c233 c234 c235 c236 tt0 tt1 tt2 tt3 tt4 tt5 tt6 tt7 tt8 tt9
        repeat' first | (with_reducible assumption) | (with_reducible exact Nat.le_refl _) | (with_reducible refine setB ?_ ?_) | (with_reducible refine Below.drew ?_) | (with_reducible refine bnew ?_ _) | omega
    · go_enter Tryd.func46, Tryd.ntmps46
      go_wp2_with fail
      (with_reducible refine (CC.out _).mono ?_)
      rintro e w237 ⟨rfl, hb⟩
      have H238 := Lib.hid ((((OwnC.new w #[.int .u64 (whi n), .int .u64 (wlo n), .bool s] 54).old (.cells #[.int .u64 (whi d), .int .u64 (wlo d), .bool t] 54)).old (.cells #[.int .i64 0, .int .i64 0] 23)).below hb)
      have H239 := Lib.hid (((OwnC.new2 w (.cells #[.int .u64 (whi n), .int .u64 (wlo n), .bool s] 54) #[.int .u64 (whi d), .int .u64 (wlo d), .bool t] 54).old (.cells #[.int .i64 0, .int .i64 0] 23)).below hb)
      have H240 := Lib.hid ((OwnC.new3 w (.cells #[.int .u64 (whi n), .int .u64 (wlo n), .bool s] 54) (.cells #[.int .u64 (whi d), .int .u64 (wlo d), .bool t] 54) #[.int .i64 0, .int .i64 0] 23).below hb)
      have hb241 := bcall (bnew (bnew (bnew (Below.refl _ w) (.cells #[.int .u64 (whi n), .int .u64 (wlo n), .bool s] 54)) (.cells #[.int .u64 (whi d), .int .u64 (wlo d), .bool t] 54)) (.cells #[.int .i64 0, .int .i64 0] 23)) hb
      clear hb
      obtain ⟨⟨q1, q2, q3⟩, ⟨q4, q5, q6⟩, q7⟩ := H238.out.three
      go_wp2_with fail
      clear q1 q2 q3 q4 q5 q6 q7
      (with_reducible refine (D1.out _).mono ?_)
      rintro e w242 ⟨rfl, hb⟩
      have H243 := Lib.hid (((H238.out).old (.cells #[.int .u64 g1, .int .u64 g2, .bool false] 54)).below hb)
      have H244 := Lib.hid (((H239.out).old (.cells #[.int .u64 g1, .int .u64 g2, .bool false] 54)).below hb)
      have H245 := Lib.hid (((H240.out).old (.cells #[.int .u64 g1, .int .u64 g2, .bool false] 54)).below hb)
      have H246 := Lib.hid ((OwnC.new w237 #[.int .u64 g1, .int .u64 g2, .bool false] 54).below hb)
      have hb247 := bcall (bnew hb241 (.cells #[.int .u64 g1, .int .u64 g2, .bool false] 54)) hb
      clear hb hb241 H238 H239 H240
      obtain ⟨⟨c248, c249, c250⟩, ⟨c251, c252, c253⟩, c254⟩ := H243.out.three
      obtain ⟨⟨c255, c256, c257⟩, ⟨c258, c259, c260⟩, c261⟩ := H244.out.three
      obtain ⟨⟨c262, c263, c264⟩, ⟨c265, c266, c267⟩, c268⟩ := H246.out.three
      go_wp2_with fail
      (with_reducible refine (D2.out _).mono ?_)
      rintro e w269 ⟨rfl, hb⟩
      have H270 := Lib.hid ((((H243.out).old (.cells #[.int .u64 a1, .int .u64 a2, .bool false] 54)).old (.cells #[.int .u64 (whi na), .int .u64 (wlo na), .bool false] 54)).below hb)
      have H271 := Lib.hid ((((H244.out).old (.cells #[.int .u64 a1, .int .u64 a2, .bool false] 54)).old (.cells #[.int .u64 (whi na), .int .u64 (wlo na), .bool false] 54)).below hb)
      have H272 := Lib.hid ((((H245.out).old (.cells #[.int .u64 a1, .int .u64 a2, .bool false] 54)).old (.cells #[.int .u64 (whi na), .int .u64 (wlo na), .bool false] 54)).below hb)
      have H273 := Lib.hid ((((H246.out).old (.cells #[.int .u64 a1, .int .u64 a2, .bool false] 54)).old (.cells #[.int .u64 (whi na), .int .u64 (wlo na), .bool false] 54)).below hb)
      have H274 := Lib.hid (((OwnC.new w242 #[.int .u64 a1, .int .u64 a2, .bool false] 54).old (.cells #[.int .u64 (whi na), .int .u64 (wlo na), .bool false] 54)).below hb)
      have H275 := Lib.hid ((OwnC.new2 w242 (.cells #[.int .u64 a1, .int .u64 a2, .bool false] 54) #[.int .u64 (whi na), .int .u64 (wlo na), .bool false] 54).below hb)
      have hb276 := bcall (bnew (bnew hb247 (.cells #[.int .u64 a1, .int .u64 a2, .bool false] 54)) (.cells #[.int .u64 (whi na), .int .u64 (wlo na), .bool false] 54)) hb
      clear hb hb247 H243 H244 H245 H246 c248 c249 c250 c251 c252 c253 c254 c255 c256 c257 c258 c259 c260 c261 c262 c263 c264 c265 c266 c267 c268
      obtain ⟨⟨c277, c278, c279⟩, ⟨c280, c281, c282⟩, c283⟩ := H274.out.three
      obtain ⟨⟨c284, c285, c286⟩, ⟨c287, c288, c289⟩, c290⟩ := H270.out.three
      obtain ⟨⟨c291, c292⟩, ⟨c293, c294⟩, c295⟩ := H272.out.two
      have tt0 : w.heap.size ≤ w269.heap.size := by omega
      have tt1 : w.heap.size ≤ w269.heap.size + 1 := by omega
      have tt2 : w.heap.size < w269.heap.size + 1 := by omega
      have tt3 : w.heap.size < w269.heap.size + 1 + 1 := by omega
      have tt4 : w.heap.size + 1 ≤ w269.heap.size := by omega
      have tt5 : w.heap.size + 1 < w269.heap.size := by omega
      have tt6 : w.heap.size + 1 < w269.heap.size + 1 := by omega
      have tt7 : w.heap.size + 1 + 1 ≤ w269.heap.size := by omega
      have tt8 : w.heap.size + 1 + 1 < w269.heap.size + 1 := by omega
      have tt9 : w.heap.size + 1 ≤ w269.heap.size + 1 := by omega
      go_wp2_with fail
      refine bodyPost_ret (v := .tuple #[.agg #[.int .i64 0, .int .i64 0], .int .i64 6]) ?_ rfl ⟨rfl, ?_⟩
      · simp [results, Tryd.results46, go_sem, *]
      · have hBB := (bnew (bnew hb276 (.cells #[.int .u64 b1, .int .u64 b2, .bool false] 54)) (.cells #[.int .u64 (whi nb), .int .u64 (wlo nb), .bool false] 54))
        clear c277 c278 c279 c280 c281 c282 c283 c284 c285 c286 c287 c288 c289 c290 c291 c292 c293 c294 c295 tt0 tt1 tt2 tt3 tt4 tt5 tt6 tt7 tt8 tt9
        repeat' first | (with_reducible assumption) | (with_reducible exact Nat.le_refl _) | (with_reducible refine setB ?_ ?_) | (with_reducible refine Below.drew ?_) | (with_reducible refine bnew ?_ _) | omega
    · go_enter Tryd.func46, Tryd.ntmps46
      go_wp2_with fail
      (with_reducible refine (CC.out _).mono ?_)
      rintro e w296 ⟨rfl, hb⟩
      have H297 := Lib.hid ((((OwnC.new w #[.int .u64 (whi n), .int .u64 (wlo n), .bool s] 54).old (.cells #[.int .u64 (whi d), .int .u64 (wlo d), .bool t] 54)).old (.cells #[.int .i64 0, .int .i64 0] 23)).below hb)
      have H298 := Lib.hid (((OwnC.new2 w (.cells #[.int .u64 (whi n), .int .u64 (wlo n), .bool s] 54) #[.int .u64 (whi d), .int .u64 (wlo d), .bool t] 54).old (.cells #[.int .i64 0, .int .i64 0] 23)).below hb)
      have H299 := Lib.hid ((OwnC.new3 w (.cells #[.int .u64 (whi n), .int .u64 (wlo n), .bool s] 54) (.cells #[.int .u64 (whi d), .int .u64 (wlo d), .bool t] 54) #[.int .i64 0, .int .i64 0] 23).below hb)
      have hb300 := bcall (bnew (bnew (bnew (Below.refl _ w) (.cells #[.int .u64 (whi n), .int .u64 (wlo n), .bool s] 54)) (.cells #[.int .u64 (whi d), .int .u64 (wlo d), .bool t] 54)) (.cells #[.int .i64 0, .int .i64 0] 23)) hb
      clear hb
      obtain ⟨⟨q1, q2, q3⟩, ⟨q4, q5, q6⟩, q7⟩ := H297.out.three
      go_wp2_with fail
      clear q1 q2 q3 q4 q5 q6 q7
      (with_reducible refine (D1.out _).mono ?_)
      rintro e w301 ⟨rfl, hb⟩
      have H302 := Lib.hid (((H297.out).old (.cells #[.int .u64 g1, .int .u64 g2, .bool false] 54)).below hb)
      have H303 := Lib.hid (((H298.out).old (.cells #[.int .u64 g1, .int .u64 g2, .bool false] 54)).below hb)
      have H304 := Lib.hid (((H299.out).old (.cells #[.int .u64 g1, .int .u64 g2, .bool false] 54)).below hb)
      have H305 := Lib.hid ((OwnC.new w296 #[.int .u64 g1, .int .u64 g2, .bool false] 54).below hb)
      have hb306 := bcall (bnew hb300 (.cells #[.int .u64 g1, .int .u64 g2, .bool false] 54)) hb
      clear hb hb300 H297 H298 H299
      obtain ⟨⟨c307, c308, c309⟩, ⟨c310, c311, c312⟩, c313⟩ := H302.out.three
      obtain ⟨⟨c314, c315, c316⟩, ⟨c317, c318, c319⟩, c320⟩ := H303.out.three
      obtain ⟨⟨c321, c322, c323⟩, ⟨c324, c325, c326⟩, c327⟩ := H305.out.three
      go_wp2_with fail
      (with_reducible refine (D2.out _).mono ?_)
      rintro e w328 ⟨rfl, hb⟩
      have H329 := Lib.hid ((((H302.out).old (.cells #[.int .u64 a1, .int .u64 a2, .bool false] 54)).old (.cells #[.int .u64 (whi na), .int .u64 (wlo na), .bool false] 54)).below hb)
      have H330 := Lib.hid ((((H303.out).old (.cells #[.int .u64 a1, .int .u64 a2, .bool false] 54)).old (.cells #[.int .u64 (whi na), .int .u64 (wlo na), .bool false] 54)).below hb)
      have H331 := Lib.hid ((((H304.out).old (.cells #[.int .u64 a1, .int .u64 a2, .bool false] 54)).old (.cells #[.int .u64 (whi na), .int .u64 (wlo na), .bool false] 54)).below hb)
      have H332 := Lib.hid ((((H305.out).old (.cells #[.int .u64 a1, .int .u64 a2, .bool false] 54)).old (.cells #[.int .u64 (whi na), .int .u64 (wlo na), .bool false] 54)).below hb)
      have H333 := Lib.hid (((OwnC.new w301 #[.int .u64 a1, .int .u64 a2, .bool false] 54).old (.cells #[.int .u64 (whi na), .int .u64 (wlo na), .bool false] 54)).below hb)
      have H334 := Lib.hid ((OwnC.new2 w301 (.cells #[.int .u64 a1, .int .u64 a2, .bool false] 54) #[.int .u64 (whi na), .int .u64 (wlo na), .bool false] 54).below hb)
      have hb335 := bcall (bnew (bnew hb306 (.cells #[.int .u64 a1, .int .u64 a2, .bool false] 54)) (.cells #[.int .u64 (whi na), .int .u64 (wlo na), .bool false] 54)) hb
      clear hb hb306 H302 H303 H304 H305 c307 c308 c309 c310 c311 c312 c313 c314 c315 c316 c317 c318 c319 c320 c321 c322 c323 c324 c325 c326 c327
      obtain ⟨⟨c336, c337, c338⟩, ⟨c339, c340, c341⟩, c342⟩ := H333.out.three
      obtain ⟨⟨c343, c344, c345⟩, ⟨c346, c347, c348⟩, c349⟩ := H329.out.three
      obtain ⟨⟨c350, c351⟩, ⟨c352, c353⟩, c354⟩ := H331.out.two
      have tt0 : w.heap.size ≤ w328.heap.size := by omega
      have tt1 : w.heap.size ≤ w328.heap.size + 1 := by omega
      have tt2 : w.heap.size < w328.heap.size + 1 := by omega
      have tt3 : w.heap.size < w328.heap.size + 1 + 1 := by omega
      have tt4 : w.heap.size + 1 ≤ w328.heap.size := by omega
      have tt5 : w.heap.size + 1 < w328.heap.size := by omega
      have tt6 : w.heap.size + 1 < w328.heap.size + 1 := by omega
      have tt7 : w.heap.size + 1 + 1 ≤ w328.heap.size := by omega
      have tt8 : w.heap.size + 1 + 1 < w328.heap.size + 1 := by omega
      have tt9 : w.heap.size + 1 ≤ w328.heap.size + 1 := by omega
      go_wp2_with fail
      refine bodyPost_ret (v := .tuple #[.agg #[.int .i64 0, .int .i64 0], .int .i64 6]) ?_ rfl ⟨rfl, ?_⟩
      · simp [results, Tryd.results46, go_sem, *]
      · have hBB := (bnew (bnew hb335 (.cells #[.int .u64 b1, .int .u64 b2, .bool false] 54)) (.cells #[.int .u64 (whi nb), .int .u64 (wlo nb), .bool false] 54))
        clear c336 c337 c338 c339 c340 c341 c342 c343 c344 c345 c346 c347 c348 c349 c350 c351 c352 c353 c354 tt0 tt1 tt2 tt3 tt4 tt5 tt6 tt7 tt8 tt9
        repeat' first | (with_reducible assumption) | (with_reducible exact Nat.le_refl _) | (with_reducible refine setB ?_ ?_) | (with_reducible refine Below.drew ?_) | (with_reducible refine bnew ?_ _) | omega
end Go.Proofs.YtinnlahmlepeeaaDoor
