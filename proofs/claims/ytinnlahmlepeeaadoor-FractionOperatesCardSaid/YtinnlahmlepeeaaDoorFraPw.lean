/- The walk of FractionPowers. -/
import Derived.Test.YtinnlahmlepeeaaDoorFraMp
import Derived.Test.YtinnlahmlepeeaaDoorFraX
import Derived.RegionTactic
import Derived.Deep.RegionHeld3
namespace Go.Proofs.YtinnlahmlepeeaaDoor
open Go.RowKit
abbrev S1F (w3 : World) (n1 : Nat) (a a' : Value) (w' : World) : Prop := w'.cell? ⟨n1, 0, none⟩ = some a ∧ w'.cell? ⟨n1, 1, none⟩ = some a' ∧ Below w3.heap.size w3 w'
theorem mk1F {w3 w' : World} {n1 : Nat} {a a' : Value} (h1 : Hid (OwnC w3 n1 #[a, a'])) (hb : Below w3.heap.size w3 w') : S1F w3 n1 a a' w' :=
  have g1 := (h1.out.below hb).two
  ⟨g1.1.1, g1.1.2, hb⟩
theorem get1F {w3 w' : World} {n1 : Nat} {a a' : Value} (h : S1F w3 n1 a a' w') : Below w3.heap.size w3 w' := h.2.2
set_option maxHeartbeats 4000000 in
theorem fpow_walk (a : F2) (n : Int) (h1 : In64 a.1) (h2 : In64 a.2) (w : World) (he : Env w) :
    Calls Tryd.prog 5 #[.agg #[.int .i64 a.1, .int .i64 a.2], .int .i64 n] w fun e w' => e = .returned (.bool true) ∧ Below w.heap.size w w' := by
  have CP : Hid (∀ w, Calls Tryd.prog 25 #[.agg #[.int .i64 a.1, .int .i64 a.2], .int .i64 n] w fun e w' => e = .returned (.tuple #[.agg #[.int .i64 (powR a n).1.1, .int .i64 (powR a n).1.2], .int .i64 (powR a n).2]) ∧ Below w.heap.size w w') := Lib.hid fun w => power_any a n ⟨h1, h2⟩ w
  have CV : Hid (∀ w, Calls Tryd.prog 15 #[.agg #[.int .i64 a.1, .int .i64 a.2]] w fun e w' => e = .returned (.bool (validF a)) ∧ Below w.heap.size w w') := Lib.hid fun w => rvalid_any a h1 h2 w
  have CE : Hid (∀ w, Env w → Calls Tryd.prog 13 #[] w fun e w' => e = .returned (.bool true) ∧ Below w.heap.size w w') := Lib.hid fun w he => awake_any w he
  have EV := Lib.hid he
  have eq : ∀ (x y : Int) w, (binOp .eql 23 (.agg #[.int .i64 x, .int .i64 y]) (.agg #[.int .i64 x, .int .i64 y])).run Tryd.prog w = .ok (.bool true) w := fun x y w => by have := eqF (x, y) (x, y) w; rwa [decide_eq_true rfl] at this
  by_cases hc : validF a = true ∧ 0 ≤ n ∧ n ≤ 64
  · obtain ⟨hv, n0, n1⟩ := hc
    have e : powR a n = powI n.toNat a := by unfold powR; rw [if_pos]; simp [hv, n0, n1]
    rw [e] at CP
    rw [hv] at CV
    have d1 : decide (n < 0) = false := by simp; omega
    have d2 : decide (64 < n) = false := by simp; omega
    obtain ⟨N, hN⟩ : ∃ N : Nat, n = N := ⟨n.toNat, by omega⟩
    subst hN
    rw [Int.toNat_natCast] at CP
    have CM : Hid (∀ w, Calls Tryd.prog 26 #[.agg #[.int .i64 a.1, .int .i64 a.2], .int .i64 (N : Int)] w fun e w' => e = .returned (.tuple #[.agg #[.int .i64 (powI N a).1.1, .int .i64 (powI N a).1.2], .int .i64 (powI N a).2]) ∧ Below w.heap.size w w') := Lib.hid fun w => rpower_any a N hv (by omega) w
    clear e hv n0 n1 h1 h2
    obtain ⟨⟨⟨r1, r2⟩, r3⟩, hR⟩ : ∃ R : F2 × Int, powI N a = R := ⟨_, rfl⟩
    rw [hR] at CP CM
    have e0 := eq r1 r2
    clear hR eq
    generalize (N : Int) = n at *
    obtain ⟨a1, a2⟩ := a
    dsimp only at *
    go_enter Tryd.func5, Tryd.ntmps5
    go_wp2_with fail
    (with_reducible refine (CP.out _).mono ?_)
    rintro e w64 ⟨rfl, hb⟩
    have H65 := Lib.hid ((OwnC.new w #[.int .i64 a1, .int .i64 a2] 23).below hb)
    have hb66 := bcall (bnew (Below.refl _ w) (.cells #[.int .i64 a1, .int .i64 a2] 23)) hb
    clear hb
    obtain ⟨⟨c67, c68⟩, ⟨c69, c70⟩, c71⟩ := H65.out.two
    go_wp2_with fail
    (with_reducible refine (CV.out _).mono ?_)
    rintro e w72 ⟨rfl, hb⟩
    have H73 := Lib.hid (((H65.out).old (.cells #[.int .i64 r1, .int .i64 r2] 23)).below hb)
    have H74 := Lib.hid ((OwnC.new w64 #[.int .i64 r1, .int .i64 r2] 23).below hb)
    have hb75 := bcall (bnew hb66 (.cells #[.int .i64 r1, .int .i64 r2] 23)) hb
    clear hb hb66 H65 c67 c68 c69 c70 c71
    obtain ⟨⟨c76, c77⟩, ⟨c78, c79⟩, c80⟩ := H73.out.two
    go_wp2_with fail
    (with_reducible refine (CM.out _).mono ?_)
    rintro e w81 ⟨rfl, hb⟩
    have H82 := Lib.hid ((H73.out).below hb)
    have H83 := Lib.hid ((H74.out).below hb)
    have hb84 := bcall hb75 hb
    clear hb hb75 H73 H74 c76 c77 c78 c79 c80
    go_wp2_with fail
    have EVn := Lib.hid (EV.out.below (bnew hb84 (.cells #[.int .i64 r1, .int .i64 r2] 23)))
    (with_reducible refine (CE.out _ EVn.out).mono ?_)
    rintro e w85 ⟨rfl, hb⟩
    have H86 := Lib.hid (((H82.out).old (.cells #[.int .i64 r1, .int .i64 r2] 23)).below hb)
    have H87 := Lib.hid (((H83.out).old (.cells #[.int .i64 r1, .int .i64 r2] 23)).below hb)
    have H88 := Lib.hid ((OwnC.new w81 #[.int .i64 r1, .int .i64 r2] 23).below hb)
    have hb89 := bcall (bnew hb84 (.cells #[.int .i64 r1, .int .i64 r2] 23)) hb
    clear hb hb84 H82 H83
    clear EVn
    obtain ⟨⟨c90, c91⟩, ⟨c92, c93⟩, c94⟩ := H87.out.two
    obtain ⟨⟨c95, c96⟩, ⟨c97, c98⟩, c99⟩ := H88.out.two
    go_wp2_with fail
    go_ret
    exact ⟨rfl, hb89⟩
  · have e : powR a n = ((0, 0), 1) := by
      unfold powR
      rw [if_neg]
      intro h
      simp only [Bool.and_eq_true, decide_eq_true_eq] at h
      exact hc h
    rw [e] at CP
    have hc' : validF a = false ∨ (validF a = true ∧ decide (n < 0) = true) ∨ (validF a = true ∧ decide (n < 0) = false ∧ decide (64 < n) = true) := by
      rcases h : validF a with _ | _
      · left; rfl
      · right
        by_cases h0 : n < 0
        · left; exact ⟨rfl, by simpa using h0⟩
        · right; exact ⟨rfl, by simpa using h0, by simp only [decide_eq_true_eq]; rcases Int.lt_or_le 64 n with h' | h'
                                                   · exact h'
                                                   · exact absurd ⟨h, by omega, h'⟩ hc⟩
    clear hc e h1 h2
    have e0 := eq 0 0
    clear eq
    rcases hc' with h | ⟨h, d1⟩ | ⟨h, d1, d2⟩
    · rw [h] at CV
      clear h
      obtain ⟨a1, a2⟩ := a
      dsimp only at *
      go_enter Tryd.func5, Tryd.ntmps5
      go_wp2_with fail
      (with_reducible refine (CP.out _).mono ?_)
      rintro e w1 ⟨rfl, hb⟩
      have H2 := Lib.hid ((OwnC.new w #[.int .i64 a1, .int .i64 a2] 23).below hb)
      have hb3 := bcall (bnew (Below.refl _ w) (.cells #[.int .i64 a1, .int .i64 a2] 23)) hb
      clear hb
      obtain ⟨⟨c4, c5⟩, ⟨c6, c7⟩, c8⟩ := H2.out.two
      go_wp2_with fail
      (with_reducible refine (CV.out _).mono ?_)
      rintro e w9 ⟨rfl, hb⟩
      have H10 := Lib.hid (((H2.out).old (.cells #[.int .i64 0, .int .i64 0] 23)).below hb)
      have H11 := Lib.hid ((OwnC.new w1 #[.int .i64 0, .int .i64 0] 23).below hb)
      have hb12 := bcall (bnew hb3 (.cells #[.int .i64 0, .int .i64 0] 23)) hb
      clear hb hb3 H2 c4 c5 c6 c7 c8
      go_wp2_with fail
      have EVn := Lib.hid (EV.out.below hb12)
      (with_reducible refine (CE.out _ EVn.out).mono ?_)
      rintro e w13 ⟨rfl, hb⟩
      have H14 := Lib.hid ((H10.out).below hb)
      have H15 := Lib.hid ((H11.out).below hb)
      have hb16 := bcall hb12 hb
      clear hb hb12 H10 H11
      clear EVn
      obtain ⟨⟨c17, c18⟩, ⟨c19, c20⟩, c21⟩ := H15.out.two
      go_wp2_with fail
      go_ret
      exact ⟨rfl, hb16⟩
    · rw [h] at CV
      clear h
      obtain ⟨a1, a2⟩ := a
      dsimp only at *
      go_enter Tryd.func5, Tryd.ntmps5
      go_wp2_with fail
      (with_reducible refine (CP.out _).mono ?_)
      rintro e w22 ⟨rfl, hb⟩
      have H23 := Lib.hid ((OwnC.new w #[.int .i64 a1, .int .i64 a2] 23).below hb)
      have hb24 := bcall (bnew (Below.refl _ w) (.cells #[.int .i64 a1, .int .i64 a2] 23)) hb
      clear hb
      obtain ⟨⟨c25, c26⟩, ⟨c27, c28⟩, c29⟩ := H23.out.two
      go_wp2_with fail
      (with_reducible refine (CV.out _).mono ?_)
      rintro e w30 ⟨rfl, hb⟩
      have H31 := Lib.hid (((H23.out).old (.cells #[.int .i64 0, .int .i64 0] 23)).below hb)
      have H32 := Lib.hid ((OwnC.new w22 #[.int .i64 0, .int .i64 0] 23).below hb)
      have hb33 := bcall (bnew hb24 (.cells #[.int .i64 0, .int .i64 0] 23)) hb
      clear hb hb24 H23 c25 c26 c27 c28 c29
      go_wp2_with fail
      have EVn := Lib.hid (EV.out.below hb33)
      (with_reducible refine (CE.out _ EVn.out).mono ?_)
      rintro e w34 ⟨rfl, hb⟩
      have H35 := Lib.hid ((H31.out).below hb)
      have H36 := Lib.hid ((H32.out).below hb)
      have hb37 := bcall hb33 hb
      clear hb hb33 H31 H32
      clear EVn
      obtain ⟨⟨c38, c39⟩, ⟨c40, c41⟩, c42⟩ := H36.out.two
      go_wp2_with fail
      go_ret
      exact ⟨rfl, hb37⟩
    · rw [h] at CV
      clear h
      obtain ⟨a1, a2⟩ := a
      dsimp only at *
      go_enter Tryd.func5, Tryd.ntmps5
      go_wp2_with fail
      (with_reducible refine (CP.out _).mono ?_)
      rintro e w43 ⟨rfl, hb⟩
      have H44 := Lib.hid ((OwnC.new w #[.int .i64 a1, .int .i64 a2] 23).below hb)
      have hb45 := bcall (bnew (Below.refl _ w) (.cells #[.int .i64 a1, .int .i64 a2] 23)) hb
      clear hb
      obtain ⟨⟨c46, c47⟩, ⟨c48, c49⟩, c50⟩ := H44.out.two
      go_wp2_with fail
      (with_reducible refine (CV.out _).mono ?_)
      rintro e w51 ⟨rfl, hb⟩
      have H52 := Lib.hid (((H44.out).old (.cells #[.int .i64 0, .int .i64 0] 23)).below hb)
      have H53 := Lib.hid ((OwnC.new w43 #[.int .i64 0, .int .i64 0] 23).below hb)
      have hb54 := bcall (bnew hb45 (.cells #[.int .i64 0, .int .i64 0] 23)) hb
      clear hb hb45 H44 c46 c47 c48 c49 c50
      go_wp2_with fail
      have EVn := Lib.hid (EV.out.below hb54)
      (with_reducible refine (CE.out _ EVn.out).mono ?_)
      rintro e w55 ⟨rfl, hb⟩
      have H56 := Lib.hid ((H52.out).below hb)
      have H57 := Lib.hid ((H53.out).below hb)
      have hb58 := bcall hb54 hb
      clear hb hb54 H52 H53
      clear EVn
      obtain ⟨⟨c59, c60⟩, ⟨c61, c62⟩, c63⟩ := H57.out.two
      go_wp2_with fail
      go_ret
      exact ⟨rfl, hb58⟩
end Go.Proofs.YtinnlahmlepeeaaDoor
