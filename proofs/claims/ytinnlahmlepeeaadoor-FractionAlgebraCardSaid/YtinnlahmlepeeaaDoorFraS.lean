/- The reference's small functions. -/
import Derived.Test.YtinnlahmlepeeaaDoorFraE
namespace Go.Proofs.YtinnlahmlepeeaaDoor
open Go.RowKit
theorem rsize_any (n : Int) (h : In64 n) (w : World) : Calls Tryd.prog 49 #[.int .i64 n] w fun e w' => e = .returned (.int .u64 (n.natAbs : Int)) ∧ w' = w := by
  obtain ⟨h1, h2⟩ := h
  by_cases h0 : n < 0
  · have d0 : decide (n < 0) = true := by simpa using h0
    have e1 : IntKind.u64.wrap n = n + 18446744073709551616 := by rw [IntKind.wrap_u64]; omega
    have e2 : IntKind.u64.wrap (-(n + 18446744073709551616)) = (n.natAbs : Int) := by rw [IntKind.wrap_u64]; omega
    go_enter Tryd.func49, Tryd.ntmps49
    go_wp2
    go_ret
    exact ⟨ret_int (by omega), rfl⟩
  · have d0 : decide (n < 0) = false := by simpa using h0
    have e1 : IntKind.u64.wrap n = n := by rw [IntKind.wrap_u64]; omega
    go_enter Tryd.func49, Tryd.ntmps49
    go_wp2
    go_ret
    exact ⟨ret_int (by omega), rfl⟩
theorem rgcd_any (a0 b0 : Int) (g : Nat) (h1 : InU a0) (h2 : InU b0) (HG : Hid (Nat.gcd a0.natAbs b0.natAbs = g)) (w : World) : Calls Tryd.prog 48 #[.int .u64 a0, .int .u64 b0] w fun e w' => e = .returned (.int .u64 (g : Int)) ∧ ∃ n, w' = w.drewN n := by
  obtain ⟨u1, u1'⟩ := h1
  obtain ⟨u2, u2'⟩ := h2
  go_enter Tryd.func48, Tryd.ntmps48
  go_wp2
  go_loopw [0, 1] (fun x y wr => ∃ a b : Int, 0 ≤ a ∧ a < 18446744073709551616 ∧ 0 ≤ b ∧ b < 18446744073709551616 ∧ x = .int .u64 a ∧ y = .int .u64 b ∧ Nat.gcd a.natAbs b.natAbs = g ∧ ∃ n, wr = w.drewN n) (fun _ y _ => (intOf y).toNat)
  case atStart => exact ⟨a0, b0, u1, u1', u2, u2', rfl, rfl, HG.out, 0, rfl⟩
  case round =>
    obtain ⟨a, b, ha, ha', hb, hb', rfl, rfl, hg, n, rfl⟩ := hrel
    have HH := Lib.hid hg
    clear hg
    by_cases hz : b = 0
    · subst hz
      go_wp2
      go_ret
      exact ⟨ret_int (by rw [← HH.out]; simp; omega), n, rfl⟩
    · have h0 : (b != 0) = true := by simpa using hz
      have h1 : 0 ≤ a % b := Int.emod_nonneg _ hz
      have h2 : a % b < b := Int.emod_lt_of_pos _ (by omega)
      have H3 : Hid (Nat.gcd b.natAbs (a % b).natAbs = Nat.gcd a.natAbs b.natAbs) := Lib.hid (by
        rw [Int.natAbs_emod_of_nonneg ha, Nat.gcd_comm, ← Nat.gcd_rec, Nat.gcd_comm])
      have h4 : 1 ≤ b := by omega
      go_wp2
      go_quiet (fail)
      go_wp2
      go_roundw
      case rel => exact ⟨b, a % b, by omega, by omega, h1, by omega, rfl, rfl, by rw [H3.out, HH.out], _, by rw [World.drewN_drewN]⟩
      case measure => simp [intOf]; omega
theorem rvalid_any (f : F2) (h1 : In64 f.1) (h2 : In64 f.2) (w : World) : Calls Tryd.prog 15 #[.agg #[.int .i64 f.1, .int .i64 f.2]] w fun e w' => e = .returned (.bool (validF f)) ∧ Below w.heap.size w w' := by
  have HV := Lib.hid (validF_iff f)
  have C1 := Lib.hid (rsize_any f.1 h1)
  have C2 : Hid (0 ≤ f.2 → ∀ w, Calls Tryd.prog 48 #[.int .u64 (f.1.natAbs : Int), .int .u64 f.2] w fun e w' => e = .returned (.int .u64 (Nat.gcd f.1.natAbs f.2.natAbs : Int)) ∧ ∃ n, w' = w.drewN n) := Lib.hid fun h0 w => by
    have := rgcd_any (f.1.natAbs : Int) f.2 (Nat.gcd f.1.natAbs f.2.natAbs) (natAbs_InU h1) ⟨h0, by have := h2.2; omega⟩ (Lib.hid (by rw [Int.natAbs_natCast])) w
    exact this
  generalize validF f = v at *
  obtain ⟨g, hg⟩ : ∃ g : Nat, Nat.gcd f.1.natAbs f.2.natAbs = g := ⟨_, rfl⟩
  rw [hg] at C2 HV
  obtain ⟨n, d⟩ := f
  dsimp only at *
  clear hg
  obtain ⟨x1, x2⟩ := h1
  obtain ⟨x3, x4⟩ := h2
  by_cases c1 : 1 ≤ d
  · have k1 : decide (1 ≤ d) = true := by simpa using c1
    have wd : IntKind.u64.wrap d = d := by rw [IntKind.wrap_u64]; omega
    have D2 := Lib.hid (C2.out (by omega))
    by_cases c2 : d < 1000000000000000000
    · have k2 : decide (d < 1000000000000000000) = true := by simpa using c2
      by_cases c3 : -1000000000000000000 < n
      · have k3 : decide (-1000000000000000000 < n) = true := by simpa using c3
        by_cases c4 : n < 1000000000000000000
        · have k4 : decide (n < 1000000000000000000) = true := by simpa using c4
          generalize (n.natAbs : Int) = na at *
          clear C2
          go_enter Tryd.func15, Tryd.ntmps15
          go_wp2_with fail
          go_quiet (first | (go_at_call 49; exact Calls.quiet_of_same (C1.out _)) | (go_at_call 48; exact Calls.quiet_of (D2.out _)))
          go_wp2_with fail
          go_ret
          exact ⟨ret_bool (by rw [Bool.eq_iff_iff, HV.out]; simp only [beq_iff_eq]; omega), below_drewN (bnew (Below.refl _ _) _) _⟩
        · have k4 : decide (n < 1000000000000000000) = false := by simpa using c4
          have HN : Hid (v = false) := Lib.hid (by rcases v with _ | _; · rfl
                                                   · exfalso; have := HV.out.1 rfl; omega)
          clear HV C1 C2 D2
          go_enter Tryd.func15, Tryd.ntmps15
          go_wp2_with fail
          go_quiet (fail)
          go_wp2_with fail
          go_ret
          exact ⟨ret_bool HN.out.symm, below_drewN (bnew (Below.refl _ _) _) _⟩
      · have k3 : decide (-1000000000000000000 < n) = false := by simpa using c3
        have HN : Hid (v = false) := Lib.hid (by rcases v with _ | _; · rfl
                                                 · exfalso; have := HV.out.1 rfl; omega)
        clear HV C1 C2 D2
        go_enter Tryd.func15, Tryd.ntmps15
        go_wp2_with fail
        go_quiet (fail)
        go_wp2_with fail
        go_ret
        exact ⟨ret_bool HN.out.symm, below_drewN (bnew (Below.refl _ _) _) _⟩
    · have k2 : decide (d < 1000000000000000000) = false := by simpa using c2
      have HN : Hid (v = false) := Lib.hid (by rcases v with _ | _; · rfl
                                               · exfalso; have := HV.out.1 rfl; omega)
      clear HV C1 C2 D2
      go_enter Tryd.func15, Tryd.ntmps15
      go_wp2_with fail
      go_quiet (fail)
      go_wp2_with fail
      go_ret
      exact ⟨ret_bool HN.out.symm, below_drewN (bnew (Below.refl _ _) _) _⟩
  · have k1 : decide (1 ≤ d) = false := by simpa using c1
    have HN : Hid (v = false) := Lib.hid (by rcases v with _ | _; · rfl
                                             · exfalso; have := HV.out.1 rfl; omega)
    clear HV C1 C2
    go_enter Tryd.func15, Tryd.ntmps15
    go_wp2_with fail
    go_quiet (fail)
    go_wp2_with fail
    go_ret
    exact ⟨ret_bool HN.out.symm, below_drewN (bnew (Below.refl _ _) _) _⟩
end Go.Proofs.YtinnlahmlepeeaaDoor
