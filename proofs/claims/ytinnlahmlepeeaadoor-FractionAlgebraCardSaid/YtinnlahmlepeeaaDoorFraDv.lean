/- math/bits.Div64 at all operands. -/
import Derived.Test.YtinnlahmlepeeaaDoorFraDn
import Derived.RegionTactic
import Derived.Deep.CutBlock
namespace Go.Proofs.YtinnlahmlepeeaaDoor
open Go.RowKit
/-- A digit tried, as the program reckons it. -/
theorem try_of {U y1 : Int} (h0 : 0 ≤ U) (h1 : U < 18446744073709551616) (hy : 0 < y1) :
    IntKind.u64.wrap (U.tdiv y1) = U / y1 ∧ IntKind.u64.wrap (U / y1 * y1) = U / y1 * y1 ∧ IntKind.u64.wrap (U - U / y1 * y1) = U % y1 ∧ U = U / y1 * y1 + U % y1 ∧ 0 ≤ U % y1 ∧ U % y1 < y1 ∧ 0 ≤ U / y1 := by
  have e := Int.ediv_mul_add_emod U y1
  have a := Int.emod_nonneg U (show y1 ≠ 0 by omega)
  have b := Int.emod_lt_of_pos U hy
  have c := Int.ediv_nonneg h0 (Int.le_of_lt hy)
  have d := Int.ediv_le_self y1 h0
  have f := Int.mul_nonneg c (Int.le_of_lt hy)
  rw [Int.tdiv_eq_ediv_of_nonneg h0]
  simp only [IntKind.wrap_u64]
  exact ⟨by omega, by omega, by omega, by omega, a, b, c⟩
/-- What the loop of a digit goes by. -/
def Digit (U y1 y0 u1 D : Int) : Prop := 0 ≤ D ∧ D < 4294967296 ∧ (∀ q r, U = q * y1 + r → (4294967296 ≤ q ∨ 4294967296 * r + u1 < q * y0) → D ≤ q - 1) ∧ (∀ q r, U = q * y1 + r → q * y0 ≤ 4294967296 * r + u1 → q ≤ D) ∧
  (∀ q r, 0 ≤ q → U = q * y1 + r → 4294967296 ≤ r → q * y0 ≤ 4294967296 * r + u1)
theorem digit_of {U Y y1 y0 u1 : Int} (hY : Y = y1 * 4294967296 + y0) (h1 : 0 < y1) (h0 : 0 ≤ y0) (h0' : y0 < 4294967296) (U0 : 0 ≤ U) (UY : U < Y) (a : 0 ≤ u1) (b : u1 < 4294967296) : Digit U y1 y0 u1 ((U * 4294967296 + u1) / Y) := by
  have hd := digit_base U0 UY b a
  subst hY
  have hp : 0 < y1 * 4294967296 + y0 := by omega
  exact ⟨hd.1, hd.2, fun q r e c => digit_less hp UY b e c, fun q r e c => digit_most hp e c, fun q r p e c => (digit_break h1 h0 h0' UY a p e c).2⟩
theorem digit_start {U y1 y0 u1 D Q R : Int} (h : Digit U y1 y0 u1 D) (b : u1 < 4294967296) (h0 : 0 ≤ y0) (hQ : 0 ≤ Q) (e : U = Q * y1 + R) (hR : R < y1) : D ≤ Q := by
  have := h.2.2.1 (Q + 1) (R - y1) (by rw [Int.add_mul]; omega) (.inr (by have := Int.mul_nonneg (show 0 ≤ Q + 1 by omega) h0; omega))
  omega
set_option maxHeartbeats 4000000 in
theorem div64_high (hi lo y : Int) (h0 : 0 < hi) (hlt : hi < y) (hl : InU lo) (hy : InU y) (w : World) : Calls Tryd.prog 67 #[.int .u64 hi, .int .u64 lo, .int .u64 y] w fun e w' =>
    e = .returned (.tuple #[.int .u64 ((hi * 18446744073709551616 + lo) / y), .int .u64 ((hi * 18446744073709551616 + lo) % y)]) ∧ Below w.heap.size w w' := by
  have CL : Hid (∀ w, Calls Tryd.prog 81 #[.int .u64 y] w fun e w' => e = .returned (.int .i64 (64 - (Lib.bitLen y.toNat : Int))) ∧ w' = w) := Lib.hid fun w => lz64_any y hy w
  have d0 : (y == 0) = false := by simp; omega
  have d1 : decide (y ≤ hi) = false := by simp; omega
  have d2 : (hi == 0) = false := by simp; omega
  obtain ⟨l1, l2⟩ := hl
  obtain ⟨y1', y2'⟩ := hy
  obtain ⟨n, hn, hs, hY1, hY2⟩ := shift_of (y := y) (by omega) y2'
  rw [hs] at CL
  obtain ⟨L0, Lk, UY, H0, EQ⟩ := norm_of (n := n) (hi := hi) (lo := lo) (y := y) (by omega) hlt (by omega) l1 l2
  have OR := or_any (a := hi) (b := lo / 2 ^ (64 - n)) (n := n) (by omega) L0 Lk (by omega)
  have hk : (0 : Int) < 2 ^ n := Int.pow_pos (by omega)
  obtain ⟨SH1, SH2⟩ := shifted (m := hi * 18446744073709551616 + lo) (d := y) hk
  rw [← SH1]
  have SR : (hi * 18446744073709551616 + lo) % y = (hi * 18446744073709551616 + lo) * 2 ^ n % (y * 2 ^ n) / 2 ^ n := by rw [SH2, Int.mul_ediv_cancel _ (by omega)]
  rw [SR]
  clear SH1 SH2 SR
  obtain ⟨s, es⟩ : ∃ s, (n : Int) = s := ⟨_, rfl⟩
  rw [es] at CL
  have ws : IntKind.u64.wrap s = s := by rw [IntKind.wrap_u64]; omega
  have w64 : IntKind.u64.wrap (64 - s) = 64 - s := by rw [IntKind.wrap_u64]; omega
  have sp : 0 ≤ s := by omega
  have sp2 : 0 ≤ 64 - s := by omega
  have sp3 : s ≤ 64 := by omega
  have mn : s.toNat = n := by omega
  have mn2 : (64 - s).toNat = 64 - n := by omega
  have wl : IntKind.u64.wrap (lo * 2 ^ n) = lo * 2 ^ n % 18446744073709551616 := by rw [IntKind.wrap_u64]
  have m0 := Int.emod_nonneg (lo * 2 ^ n) (show (18446744073709551616 : Int) ≠ 0 by omega)
  have m1 := Int.emod_lt_of_pos (lo * 2 ^ n) (show (0 : Int) < 18446744073709551616 by omega)
  obtain ⟨Y, eY⟩ : ∃ Y, y * 2 ^ n = Y := ⟨_, rfl⟩
  obtain ⟨H, eH⟩ : ∃ H, hi * 2 ^ n = H := ⟨_, rfl⟩
  obtain ⟨L, eL⟩ : ∃ L, lo / 2 ^ (64 - n) = L := ⟨_, rfl⟩
  obtain ⟨M, eM⟩ : ∃ M, lo * 2 ^ n % 18446744073709551616 = M := ⟨_, rfl⟩
  rw [eH, eL] at OR
  rw [eY] at hY1 hY2 UY ⊢
  rw [eH] at UY H0 EQ
  rw [eL] at L0 Lk UY EQ
  rw [eM] at wl m0 m1 EQ
  obtain ⟨U, eU⟩ : ∃ U, H + L = U := ⟨_, rfl⟩
  rw [eU] at OR UY EQ
  have U0 : 0 ≤ U := by omega
  have wy : IntKind.u64.wrap (y * 2 ^ n) = Y := by rw [eY, IntKind.wrap_u64]; omega
  have wh : IntKind.u64.wrap (hi * 2 ^ n) = H := by rw [eH, IntKind.wrap_u64]; omega
  have aY := and_mask (x := Y) (by omega) hY2
  have aM := and_mask (x := M) m0 m1
  have bY : Y = Y / 4294967296 * 4294967296 + Y % 4294967296 := by omega
  have bM : M = M / 4294967296 * 4294967296 + M % 4294967296 := by omega
  have q1 : 2147483648 ≤ Y / 4294967296 := by omega
  have q2 : Y / 4294967296 < 4294967296 := by omega
  have q3 : 0 ≤ Y % 4294967296 := by omega
  have q4 : Y % 4294967296 < 4294967296 := by omega
  have q5 : 0 ≤ M / 4294967296 := by omega
  have q6 : M / 4294967296 < 4294967296 := by omega
  have q7 : 0 ≤ M % 4294967296 := by omega
  have q8 : M % 4294967296 < 4294967296 := by omega
  clear hn hs es H0 L0 Lk eM eU eH eY m0 m1 l1 l2 y1' y2' h0 hlt hk
  obtain ⟨y1, ey1⟩ : ∃ x, Y / 4294967296 = x := ⟨_, rfl⟩
  obtain ⟨y0, ey0⟩ : ∃ x, Y % 4294967296 = x := ⟨_, rfl⟩
  obtain ⟨u1, eu1⟩ : ∃ x, M / 4294967296 = x := ⟨_, rfl⟩
  obtain ⟨u0, eu0⟩ : ∃ x, M % 4294967296 = x := ⟨_, rfl⟩
  rw [ey0] at aY bY q3 q4
  rw [eu0] at aM bM q7 q8
  rw [ey1] at bY q1 q2
  rw [eu1] at bM q5 q6
  clear ey0 eu0
  obtain ⟨t1, t2, t3, t4, t5, t6, t7⟩ := try_of (U := U) (y1 := y1) U0 (by omega) (by omega)
  obtain ⟨Q, eQ⟩ : ∃ x, U / y1 = x := ⟨_, rfl⟩
  obtain ⟨R, eR⟩ : ∃ x, U % y1 = x := ⟨_, rfl⟩
  rw [eQ] at t1 t2 t3 t4 t7
  rw [eR] at t3 t4 t5 t6
  clear eQ eR
  have yz : y1 ≠ 0 := by omega
  have yz2 : (y1 == 0) = false := by simpa using yz
  have DG := digit_of bY (by omega) q3 q4 U0 UY q5 q6
  obtain ⟨D, eD⟩ : ∃ x, (U * 4294967296 + u1) / Y = x := ⟨_, rfl⟩
  rw [eD] at DG
  have DS := Lib.hid (digit_start DG q6 q3 t7 t4 t6)
  have HD := Lib.hid DG
  have HeD := Lib.hid eD
  have HEQ := Lib.hid EQ
  clear DG eD
  have HbY := Lib.hid bY
  have HbM := Lib.hid bM
  have T4 := Lib.hid t4
  clear EQ bY bM t4
  go_enter Tryd.func67, Tryd.ntmps67
  go_wp2_with fail
  (with_reducible refine (CL.out _).mono ?_)
  rintro e w1 ⟨rfl, rfl⟩
  go_upto_block 0 with fail
  have HU := Lib.hid (show U < 18446744073709551616 by omega)
  go_cut [15] (fun x wx => x = .int .u64 D ∧ wx = w1)
  case first =>
    clear CL HEQ HbY HbM HeD wl wy wh OR aY aM eL
    go_wp2_with fail
    go_loopw [15, 16] (fun x z wx => ∃ q r : Int, x = .int .u64 q ∧ z = .int .u64 r ∧ 0 ≤ q ∧ 0 ≤ r ∧ r < 4294967296 ∧ U = q * y1 + r ∧ D ≤ q ∧ wx = w1) (fun x _ _ => (intOf x - D).toNat)
    case atStart => exact ⟨Q, R, rfl, rfl, t7, t5, by omega, T4.out, DS.out, rfl⟩
    case round =>
      obtain ⟨q, r, rfl, rfl, p1, p2, p3, p4, p5, rfl⟩ := hrel
      have E := Lib.hid p4
      have P5 := Lib.hid p5
      have qU : q ≤ U := by
        have := Int.mul_le_mul_of_nonneg_left (show 1 ≤ y1 by omega) p1
        omega
      have hU := HU.out
      have w3 : IntKind.u64.wrap (r + y1) = r + y1 := by rw [IntKind.wrap_u64]; omega
      have w4 : IntKind.u64.wrap (4294967296 * r) = 4294967296 * r := by rw [IntKind.wrap_u64]; omega
      have w5 : IntKind.u64.wrap (4294967296 * r + u1) = 4294967296 * r + u1 := by rw [IntKind.wrap_u64]; omega
      clear p4 p5 DS T4
      rcases Int.lt_or_le q 4294967296 with hq | hq
      · have dA : decide (4294967296 ≤ q) = false := by simpa using hq
        have wqb : q * y0 ≤ 4294967296 * 4294967296 - 4294967296 := by
          have := Int.mul_le_mul (show q ≤ 4294967295 by omega) (show y0 ≤ 4294967295 by omega) q3 (by omega)
          omega
        have wq0 := Int.mul_nonneg p1 q3
        have wq : IntKind.u64.wrap (q * y0) = q * y0 := by rw [IntKind.wrap_u64]; omega
        clear wqb wq0
        by_cases hB : 4294967296 * r + u1 < q * y0
        · have dB : decide (4294967296 * r + u1 < q * y0) = true := by simpa using hB
          have hcc : 4294967296 ≤ q ∨ 4294967296 * r + u1 < q * y0 := .inr hB
          have hL := Lib.hid (HD.out.2.2.1 q r E.out hcc)
          have q1' : 1 ≤ q := by have h1 := hL.out; have h2 := HD.out.1; omega
          have w2 : IntKind.u64.wrap (q - 1) = q - 1 := by rw [IntKind.wrap_u64]; omega
          clear hcc
          by_cases hb : 4294967296 ≤ r + y1
          · have dC : decide (4294967296 ≤ r + y1) = true := by simpa using hb
            have hF : Hid (q - 1 = D) := Lib.hid (by
              have e2 : U = (q - 1) * y1 + (r + y1) := by have h3 := E.out; rw [Int.sub_mul]; omega
              have h1 := HD.out.2.2.2.1 (q - 1) (r + y1) e2 (HD.out.2.2.2.2 (q - 1) (r + y1) (by omega) e2 hb)
              have h2 := hL.out
              omega)
            go_wp2_with fail
            go_meet
            exact ⟨by rw [hF.out], rfl⟩
          · have dC : decide (4294967296 ≤ r + y1) = false := by simpa using hb
            have hb' : r + y1 < 4294967296 := by omega
            go_wp2_with fail
            go_roundw
            case rel => exact ⟨q - 1, r + y1, rfl, rfl, by omega, by omega, hb', by have h3 := E.out; rw [Int.sub_mul]; omega, hL.out, by first | rfl | trivial⟩
            case measure => have h1 := hL.out; simp [intOf]; omega
        · have dB : decide (4294967296 * r + u1 < q * y0) = false := by simpa using hB
          have hF : Hid (q = D) := Lib.hid (by
            have h1 := HD.out.2.2.2.1 q r E.out (by omega)
            have h2 := P5.out
            omega)
          have hB' : q * y0 ≤ 4294967296 * r + u1 := by omega
          go_wp2_with fail
          go_meet
          exact ⟨by rw [hF.out], rfl⟩
      · have dA : decide (4294967296 ≤ q) = true := by simpa using hq
        have hcc : 4294967296 ≤ q ∨ 4294967296 * r + u1 < q * y0 := .inl hq
        have hL := Lib.hid (HD.out.2.2.1 q r E.out hcc)
        have q1' : 1 ≤ q := by have h1 := hL.out; have h2 := HD.out.1; omega
        have w2 : IntKind.u64.wrap (q - 1) = q - 1 := by rw [IntKind.wrap_u64]; omega
        clear hcc
        by_cases hb : 4294967296 ≤ r + y1
        · have dC : decide (4294967296 ≤ r + y1) = true := by simpa using hb
          have hF : Hid (q - 1 = D) := Lib.hid (by
            have e2 : U = (q - 1) * y1 + (r + y1) := by have h3 := E.out; rw [Int.sub_mul]; omega
            have h1 := HD.out.2.2.2.1 (q - 1) (r + y1) e2 (HD.out.2.2.2.2 (q - 1) (r + y1) (by omega) e2 hb)
            have h2 := hL.out
            omega)
          go_wp2_with fail
          go_meet
          exact ⟨by rw [hF.out], rfl⟩
        · have dC : decide (4294967296 ≤ r + y1) = false := by simpa using hb
          have hb' : r + y1 < 4294967296 := by omega
          go_wp2_with fail
          go_roundw
          case rel => exact ⟨q - 1, r + y1, rfl, rfl, by omega, by omega, hb', by have h3 := E.out; rw [Int.sub_mul]; omega, hL.out, by first | rfl | trivial⟩
          case measure => have h1 := hL.out; simp [intOf]; omega
  case rest =>
    obtain ⟨rfl, hwx⟩ := hcut
    have hwx := hwx.symm
    subst hwx
    clear CL wl wy wh OR aY aM eL T4 DS t1 t2 t3 t5 t6 t7
    obtain ⟨r1, r2, r3⟩ := digit_rest (u := U) (u1 := u1) (y := Y) (by omega)
    have TD := two_digits (u := U) (u1 := u1) (u0 := u0) (y := Y) (by omega)
    rw [HeD.out] at r1 TD
    obtain ⟨V, eV⟩ : ∃ x, (U * 4294967296 + u1) % Y = x := ⟨_, rfl⟩
    rw [eV] at r1 r2 r3 TD
    have wV : IntKind.u64.wrap (IntKind.u64.wrap (IntKind.u64.wrap (U * 4294967296) + u1) - IntKind.u64.wrap (D * Y)) = V := by simp only [IntKind.wrap_u64]; omega
    obtain ⟨t1, t2, t3, t4, t5, t6, t7⟩ := try_of (U := V) (y1 := y1) r2 (by omega) (by omega)
    obtain ⟨Q, eQ⟩ : ∃ x, V / y1 = x := ⟨_, rfl⟩
    obtain ⟨R, eR⟩ : ∃ x, V % y1 = x := ⟨_, rfl⟩
    rw [eQ] at t1 t2 t3 t4 t7
    rw [eR] at t3 t4 t5 t6
    have DG := digit_of HbY.out (by omega) q3 q4 r2 r3 q7 q8
    obtain ⟨D0, eD⟩ : ∃ x, (V * 4294967296 + u0) / Y = x := ⟨_, rfl⟩
    rw [eD] at DG TD
    have DS := Lib.hid (digit_start DG q8 q3 t7 t4 t6)
    have HD0 := Lib.hid DG
    have T4 := Lib.hid t4
    obtain ⟨g1, g2, g3⟩ := digit_rest (u := V) (u1 := u0) (y := Y) (by omega)
    rw [eD] at g1
    obtain ⟨V2, eV2⟩ : ∃ x, (V * 4294967296 + u0) % Y = x := ⟨_, rfl⟩
    rw [eV2] at g1 g2 g3 TD
    have wV2 : IntKind.u64.wrap (IntKind.u64.wrap (IntKind.u64.wrap (V * 4294967296) + u0) - IntKind.u64.wrap (D0 * Y)) = V2 := by simp only [IntKind.wrap_u64]; omega
    have h1 := HD.out.1
    have h2 := HD.out.2.1
    have h3 := DG.1
    have h4 := DG.2.1
    have wq : IntKind.u64.wrap (IntKind.u64.wrap (D * 4294967296) + D0) = D * 4294967296 + D0 := by simp only [IntKind.wrap_u64]; omega
    have em : (hi * 18446744073709551616 + lo) * 2 ^ n = (U * 4294967296 + u1) * 4294967296 + u0 := by
      have a1 := HEQ.out
      have a2 := HbM.out
      omega
    have HR1 : Hid ((hi * 18446744073709551616 + lo) * 2 ^ n / Y = D * 4294967296 + D0) := Lib.hid (by rw [em]; exact TD.1)
    have HR2 : Hid ((hi * 18446744073709551616 + lo) * 2 ^ n % Y = V2) := Lib.hid (by rw [em]; exact TD.2)
    have HV := Lib.hid (show V < 18446744073709551616 by omega)
    have V0 := r2
    clear DG t4 eQ eR eD eV eV2 TD r1 r2 r3 g1 g2 g3 em HEQ HbM HeD HD h1 h2 h3 h4
    go_upto_block 2 with fail
    go_cut [18] (fun x wx => x = .int .u64 D0 ∧ wx = w1)
    case first =>
      clear wV wV2 wq HR1 HR2
      go_wp2_with fail
      go_loopw [18, 16] (fun x z wx => ∃ q r : Int, x = .int .u64 q ∧ z = .int .u64 r ∧ 0 ≤ q ∧ 0 ≤ r ∧ r < 4294967296 ∧ V = q * y1 + r ∧ D0 ≤ q ∧ wx = w1) (fun x _ _ => (intOf x - D0).toNat)
      case atStart => exact ⟨Q, R, rfl, rfl, t7, t5, by omega, T4.out, DS.out, rfl⟩
      case round =>
        obtain ⟨q, r, rfl, rfl, p1, p2, p3, p4, p5, rfl⟩ := hrel
        have E := Lib.hid p4
        have P5 := Lib.hid p5
        have qU : q ≤ V := by
          have := Int.mul_le_mul_of_nonneg_left (show 1 ≤ y1 by omega) p1
          omega
        have hU := HV.out
        have w3 : IntKind.u64.wrap (r + y1) = r + y1 := by rw [IntKind.wrap_u64]; omega
        have w4 : IntKind.u64.wrap (4294967296 * r) = 4294967296 * r := by rw [IntKind.wrap_u64]; omega
        have w5 : IntKind.u64.wrap (4294967296 * r + u0) = 4294967296 * r + u0 := by rw [IntKind.wrap_u64]; omega
        clear p4 p5 DS T4
        rcases Int.lt_or_le q 4294967296 with hq | hq
        · have dA : decide (4294967296 ≤ q) = false := by simpa using hq
          have wqb : q * y0 ≤ 4294967296 * 4294967296 - 4294967296 := by
            have := Int.mul_le_mul (show q ≤ 4294967295 by omega) (show y0 ≤ 4294967295 by omega) q3 (by omega)
            omega
          have wq0 := Int.mul_nonneg p1 q3
          have wq : IntKind.u64.wrap (q * y0) = q * y0 := by rw [IntKind.wrap_u64]; omega
          clear wqb wq0
          by_cases hB : 4294967296 * r + u0 < q * y0
          · have dB : decide (4294967296 * r + u0 < q * y0) = true := by simpa using hB
            have hcc : 4294967296 ≤ q ∨ 4294967296 * r + u0 < q * y0 := .inr hB
            have hL := Lib.hid (HD0.out.2.2.1 q r E.out hcc)
            have q1' : 1 ≤ q := by have h1 := hL.out; have h2 := HD0.out.1; omega
            have w2 : IntKind.u64.wrap (q - 1) = q - 1 := by rw [IntKind.wrap_u64]; omega
            clear hcc
            by_cases hb : 4294967296 ≤ r + y1
            · have dC : decide (4294967296 ≤ r + y1) = true := by simpa using hb
              have hF : Hid (q - 1 = D0) := Lib.hid (by
                have e2 : V = (q - 1) * y1 + (r + y1) := by have h3 := E.out; rw [Int.sub_mul]; omega
                have h1 := HD0.out.2.2.2.1 (q - 1) (r + y1) e2 (HD0.out.2.2.2.2 (q - 1) (r + y1) (by omega) e2 hb)
                have h2 := hL.out
                omega)
              go_wp2_with fail
              go_meet
              exact ⟨by rw [hF.out], rfl⟩
            · have dC : decide (4294967296 ≤ r + y1) = false := by simpa using hb
              have hb' : r + y1 < 4294967296 := by omega
              go_wp2_with fail
              go_roundw
              case rel => exact ⟨q - 1, r + y1, rfl, rfl, by omega, by omega, hb', by have h3 := E.out; rw [Int.sub_mul]; omega, hL.out, by first | rfl | trivial⟩
              case measure => have h1 := hL.out; simp [intOf]; omega
          · have dB : decide (4294967296 * r + u0 < q * y0) = false := by simpa using hB
            have hF : Hid (q = D0) := Lib.hid (by
              have h1 := HD0.out.2.2.2.1 q r E.out (by omega)
              have h2 := P5.out
              omega)
            have hB' : q * y0 ≤ 4294967296 * r + u0 := by omega
            go_wp2_with fail
            go_meet
            exact ⟨by rw [hF.out], rfl⟩
        · have dA : decide (4294967296 ≤ q) = true := by simpa using hq
          have hcc : 4294967296 ≤ q ∨ 4294967296 * r + u0 < q * y0 := .inl hq
          have hL := Lib.hid (HD0.out.2.2.1 q r E.out hcc)
          have q1' : 1 ≤ q := by have h1 := hL.out; have h2 := HD0.out.1; omega
          have w2 : IntKind.u64.wrap (q - 1) = q - 1 := by rw [IntKind.wrap_u64]; omega
          clear hcc
          by_cases hb : 4294967296 ≤ r + y1
          · have dC : decide (4294967296 ≤ r + y1) = true := by simpa using hb
            have hF : Hid (q - 1 = D0) := Lib.hid (by
              have e2 : V = (q - 1) * y1 + (r + y1) := by have h3 := E.out; rw [Int.sub_mul]; omega
              have h1 := HD0.out.2.2.2.1 (q - 1) (r + y1) e2 (HD0.out.2.2.2.2 (q - 1) (r + y1) (by omega) e2 hb)
              have h2 := hL.out
              omega)
            go_wp2_with fail
            go_meet
            exact ⟨by rw [hF.out], rfl⟩
          · have dC : decide (4294967296 ≤ r + y1) = false := by simpa using hb
            have hb' : r + y1 < 4294967296 := by omega
            go_wp2_with fail
            go_roundw
            case rel => exact ⟨q - 1, r + y1, rfl, rfl, by omega, by omega, hb', by have h3 := E.out; rw [Int.sub_mul]; omega, hL.out, by first | rfl | trivial⟩
            case measure => have h1 := hL.out; simp [intOf]; omega
    case rest =>
      obtain ⟨rfl, hwx⟩ := hcut
      have hwx := hwx.symm
      subst hwx
      clear DS T4 t1 t2 t3 t5 t6 t7
      go_wp2_with fail
      rw [HR1.out, HR2.out]
      refine bodyPost_ret (v := .tuple #[.int .u64 (D * 4294967296 + D0), .int .u64 (V2 / 2 ^ n)]) ?_ rfl ⟨rfl, Below.refl _ _⟩
      simp [results, Tryd.results67, go_sem, *]
end Go.Proofs.YtinnlahmlepeeaaDoor
