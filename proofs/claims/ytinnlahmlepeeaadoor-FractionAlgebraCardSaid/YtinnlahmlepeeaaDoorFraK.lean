/- Contracts: the comparison, powers. -/
import Derived.Test.YtinnlahmlepeeaaDoorFraJ
namespace Go.Proofs.YtinnlahmlepeeaaDoor
open Go.RowKit
def sgnI (z : Int) : Int := if z < 0 then -1 else if z = 0 then 0 else 1
def cmpR (a b : F2) : Int := if validF a && validF b then sgnI (a.1 * b.2 + -b.1 * a.2) else 0
set_option maxHeartbeats 1000000 in
theorem cmp_any (a b : F2) (ha : In64 a.1 ∧ In64 a.2) (hb : In64 b.1 ∧ In64 b.2) (w : World) : Calls Tryd.prog 27 #[.agg #[.int .i64 a.1, .int .i64 a.2], .agg #[.int .i64 b.1, .int .i64 b.2]] w fun e w' => e = .returned (.int .i64 (cmpR a b)) ∧ Below w.heap.size w w' := by
  have VA : Hid (∀ w, Calls Tryd.prog 14 #[.agg #[.int .i64 a.1, .int .i64 a.2]] w fun e w' => e = .returned (.bool (validF a)) ∧ Below w.heap.size w w') := Lib.hid fun w => valid_any a ha.1 ha.2 w
  have VB : Hid (∀ w, Calls Tryd.prog 14 #[.agg #[.int .i64 b.1, .int .i64 b.2]] w fun e w' => e = .returned (.bool (validF b)) ∧ Below w.heap.size w w') := Lib.hid fun w => valid_any b hb.1 hb.2 w
  rcases h1 : validF a with _ | _
  · rw [show cmpR a b = 0 by unfold cmpR; rw [h1]; rfl]
    rw [h1] at VA
    clear VB h1 ha hb
    obtain ⟨a1, a2⟩ := a
    obtain ⟨b1, b2⟩ := b
    dsimp only at *
    go_enter Tryd.func27, Tryd.ntmps27
    go_wp2_with fail
    (with_reducible refine (VA.out _).mono ?_)
    rintro e w1 ⟨rfl, hb⟩
    have H2 := Lib.hid (((OwnC.new w #[.int .i64 a1, .int .i64 a2] 23).old (.cells #[.int .i64 b1, .int .i64 b2] 23)).below hb)
    have H3 := Lib.hid ((OwnC.new2 w (.cells #[.int .i64 a1, .int .i64 a2] 23) #[.int .i64 b1, .int .i64 b2] 23).below hb)
    have hb4 := bcall (bnew (bnew (Below.refl _ w) (.cells #[.int .i64 a1, .int .i64 a2] 23)) (.cells #[.int .i64 b1, .int .i64 b2] 23)) hb
    clear hb
    go_wp2_with fail
    go_ret
    exact ⟨rfl, hb4⟩
  · rcases h2 : validF b with _ | _
    · rw [show cmpR a b = 0 by unfold cmpR; rw [h1, h2]; rfl]
      rw [h1] at VA
      rw [h2] at VB
      clear h1 h2 ha hb
      obtain ⟨a1, a2⟩ := a
      obtain ⟨b1, b2⟩ := b
      dsimp only at *
      go_enter Tryd.func27, Tryd.ntmps27
      go_wp2_with fail
      (with_reducible refine (VA.out _).mono ?_)
      rintro e w5 ⟨rfl, hb⟩
      have H6 := Lib.hid (((OwnC.new w #[.int .i64 a1, .int .i64 a2] 23).old (.cells #[.int .i64 b1, .int .i64 b2] 23)).below hb)
      have H7 := Lib.hid ((OwnC.new2 w (.cells #[.int .i64 a1, .int .i64 a2] 23) #[.int .i64 b1, .int .i64 b2] 23).below hb)
      have hb8 := bcall (bnew (bnew (Below.refl _ w) (.cells #[.int .i64 a1, .int .i64 a2] 23)) (.cells #[.int .i64 b1, .int .i64 b2] 23)) hb
      clear hb
      obtain ⟨⟨c9, c10⟩, ⟨c11, c12⟩, c13⟩ := H7.out.two
      go_wp2_with fail
      (with_reducible refine (VB.out _).mono ?_)
      rintro e w14 ⟨rfl, hb⟩
      have H15 := Lib.hid ((H6.out).below hb)
      have H16 := Lib.hid ((H7.out).below hb)
      have hb17 := bcall hb8 hb
      clear hb hb8 H6 H7 c9 c10 c11 c12 c13
      go_wp2_with fail
      go_ret
      exact ⟨rfl, hb17⟩
    · rw [show cmpR a b = sgnI (a.1 * b.2 + -b.1 * a.2) by unfold cmpR; rw [h1, h2]; rfl]
      rw [h1] at VA
      rw [h2] at VB
      obtain ⟨a3, a4, a5, a6, a7⟩ := (validF_iff a).1 h1
      obtain ⟨b3, b4, b5, b6, b7⟩ := (validF_iff b).1 h2
      obtain ⟨a1, a2⟩ := a
      obtain ⟨b1, b2⟩ := b
      dsimp only at *
      have wn : wrap64 (-b1) = -b1 := by unfold wrap64; omega
      have l1 := mul_le18 a5 a6 hb.2 (by omega)
      have l2 := mul_le18 (x := -b1) (y := a2) (by omega) (by omega) ha.2 (by omega)
      have ss : In127 (a1 * b2 + -b1 * a2) := by unfold In127; omega
      have P1 : Hid (∀ w, Calls Tryd.prog 40 #[.int .i64 a1, .int .i64 b2] w fun e w' => e = .returned (.agg #[.int .u64 (whi (a1 * b2)), .int .u64 (wlo (a1 * b2))]) ∧ Below w.heap.size w w') := Lib.hid fun w => product_any _ _ ha.1 hb.2 w
      have P2 : Hid (∀ w, Calls Tryd.prog 40 #[.int .i64 (-b1), .int .i64 a2] w fun e w' => e = .returned (.agg #[.int .u64 (whi (-b1 * a2)), .int .u64 (wlo (-b1 * a2))]) ∧ Below w.heap.size w w') := Lib.hid fun w => product_any _ _ (by unfold In64; omega) ha.2 w
      have PL : Hid (∀ w, Calls Tryd.prog 50 #[.agg #[.int .u64 (whi (a1 * b2)), .int .u64 (wlo (a1 * b2))], .agg #[.int .u64 (whi (-b1 * a2)), .int .u64 (wlo (-b1 * a2))]] w fun e w' => e = .returned (.agg #[.int .u64 (whi (a1 * b2 + -b1 * a2)), .int .u64 (wlo (a1 * b2 + -b1 * a2))]) ∧ Below w.heap.size w w') := Lib.hid fun w => wplus_any _ _ w
      have SG : Hid (∀ w, Calls Tryd.prog 57 #[.agg #[.int .u64 (whi (a1 * b2 + -b1 * a2)), .int .u64 (wlo (a1 * b2 + -b1 * a2))]] w fun e w' => e = .returned (.int .i64 (sgnI (a1 * b2 + -b1 * a2))) ∧ Below w.heap.size w w') := Lib.hid fun w => sign_any _ ss w
      have P2w : Hid (∀ w, Calls Tryd.prog 40 #[.int .i64 (wrap64 (-b1)), .int .i64 a2] w fun e w' => e = .returned (.agg #[.int .u64 (whi (-b1 * a2)), .int .u64 (wlo (-b1 * a2))]) ∧ Below w.heap.size w w') := Lib.hid fun w => by rw [wn]; exact P2.out w
      have P2i : Hid (∀ w, Calls Tryd.prog 40 #[.int .i64 (IntKind.i64.wrap (-b1)), .int .i64 a2] w fun e w' => e = .returned (.agg #[.int .u64 (whi (-b1 * a2)), .int .u64 (wlo (-b1 * a2))]) ∧ Below w.heap.size w w') := Lib.hid fun w => by rw [show IntKind.i64.wrap (-b1) = -b1 by rw [IntKind.wrap_i64]; omega]; exact P2.out w
      clear ss l1 l2 a3 a4 a5 a6 a7 b3 b4 b5 b6 b7 ha hb h1 h2
      generalize sgnI (a1 * b2 + -b1 * a2) = sg at *
      generalize whi (a1 * b2 + -b1 * a2) = s1 at *
      generalize wlo (a1 * b2 + -b1 * a2) = s2 at *
      generalize whi (a1 * b2) = p1 at *
      generalize wlo (a1 * b2) = p2 at *
      generalize whi (-b1 * a2) = p3 at *
      generalize wlo (-b1 * a2) = p4 at *
      go_enter Tryd.func27, Tryd.ntmps27
      go_wp2_with fail
      (with_reducible refine (VA.out _).mono ?_)
      rintro e w18 ⟨rfl, hb⟩
      have H19 := Lib.hid (((OwnC.new w #[.int .i64 a1, .int .i64 a2] 23).old (.cells #[.int .i64 b1, .int .i64 b2] 23)).below hb)
      have H20 := Lib.hid ((OwnC.new2 w (.cells #[.int .i64 a1, .int .i64 a2] 23) #[.int .i64 b1, .int .i64 b2] 23).below hb)
      have hb21 := bcall (bnew (bnew (Below.refl _ w) (.cells #[.int .i64 a1, .int .i64 a2] 23)) (.cells #[.int .i64 b1, .int .i64 b2] 23)) hb
      clear hb
      obtain ⟨⟨c22, c23⟩, ⟨c24, c25⟩, c26⟩ := H20.out.two
      go_wp2_with fail
      (with_reducible refine (VB.out _).mono ?_)
      rintro e w27 ⟨rfl, hb⟩
      have H28 := Lib.hid ((H19.out).below hb)
      have H29 := Lib.hid ((H20.out).below hb)
      have hb30 := bcall hb21 hb
      clear hb hb21 H19 H20 c22 c23 c24 c25 c26
      go_upto_region 3 with fail
      have YA := H28
      have YB := H29
      go_region_held3 (fun w' => w'.cell? ⟨w.heap.size, 0, none⟩ = some (.int .i64 a1) ∧ w'.cell? ⟨w.heap.size, 1, none⟩ = some (.int .i64 a2) ∧ w'.cell? ⟨w.heap.size + 1, 0, none⟩ = some (.int .i64 b1) ∧ w'.cell? ⟨w.heap.size + 1, 1, none⟩ = some (.int .i64 b2) ∧ Below w27.heap.size w27 w')
        ((refine mkU2 YA YB ?_; repeat' first | (with_reducible assumption) | (with_reducible exact Below.refl _ _) | (with_reducible refine Below.drew ?_)))
        ((first | (go_at_call 40; (with_reducible refine (P1.out _).mono ?_); rintro e w' ⟨rfl, hb⟩; have hx := bcall (getU2 (by assumption)) hb; clear hb) | (go_at_call 40; (with_reducible refine (P2.out _).mono ?_); rintro e w' ⟨rfl, hb⟩; have hx := bcall (getU2 (by assumption)) hb; clear hb) | (go_at_call 40; (with_reducible refine (P2w.out _).mono ?_); rintro e w' ⟨rfl, hb⟩; have hx := bcall (getU2 (by assumption)) hb; clear hb) | (go_at_call 40; (with_reducible refine (P2i.out _).mono ?_); rintro e w' ⟨rfl, hb⟩; have hx := bcall (getU2 (by assumption)) hb; clear hb) | (go_at_call 50; (with_reducible refine (PL.out _).mono ?_); rintro e w' ⟨rfl, hb⟩; have hx := bcall (getU2 (by assumption)) hb; clear hb) | (go_at_call 57; (with_reducible refine (SG.out _).mono ?_); rintro e w' ⟨rfl, hb⟩; have hx := bcall (getU2 (by assumption)) hb; clear hb)))
      all_goals go_wp2_with fail
      all_goals go_ret
      all_goals exact ⟨rfl, bcall hb30 hx⟩
def powI : Nat → F2 → F2 × Int
  | 0, _ => ((1, 1), 0)
  | k + 1, a => if (powI k a).2 = 0 then mulR (powI k a).1 a else ((0, 0), (powI k a).2)
def powR (a : F2) (n : Int) : F2 × Int := if validF a && (decide (0 ≤ n) && decide (n ≤ 64)) then powI n.toNat a else ((0, 0), 1)
theorem ratR_cases (q : Rat) : (ratR q).2 = 0 ∧ validF (ratR q).1 = true ∨ ratR q = ((0, 0), 6) := by
  unfold ratR
  by_cases h : Fits q
  · left; rw [if_pos h]; exact ⟨rfl, ofQ_valid h⟩
  · right; rw [if_neg h]
theorem powI_cases {a : F2} (ha : validF a = true) : ∀ k, (powI k a).2 = 0 ∧ validF (powI k a).1 = true ∨ powI k a = ((0, 0), 6) := by
  intro k
  induction k with
  | zero => left; exact ⟨rfl, show validF (1, 1) = true by decide⟩
  | succ k ih =>
    unfold powI
    rcases ih with ⟨h1, h2⟩ | h
    · rw [if_pos h1]
      unfold mulR
      rw [h2, ha]
      exact ratR_cases _
    · right; rw [h]; rfl
theorem powI_err {a : F2} {k : Nat} (h : powI k a = ((0, 0), 6)) : ∀ j, powI (k + j) a = ((0, 0), 6) := by
  intro j
  induction j with
  | zero => exact h
  | succ j ih => rw [← Nat.add_assoc]; unfold powI; rw [ih]; rfl
set_option maxHeartbeats 1000000 in
theorem power_any (a : F2) (n : Int) (ha : In64 a.1 ∧ In64 a.2) (w : World) : Calls Tryd.prog 25 #[.agg #[.int .i64 a.1, .int .i64 a.2], .int .i64 n] w fun e w' =>
    e = .returned (.tuple #[.agg #[.int .i64 (powR a n).1.1, .int .i64 (powR a n).1.2], .int .i64 (powR a n).2]) ∧ Below w.heap.size w w' := by
  have VA : Hid (∀ w, Calls Tryd.prog 14 #[.agg #[.int .i64 a.1, .int .i64 a.2]] w fun e w' => e = .returned (.bool (validF a)) ∧ Below w.heap.size w w') := Lib.hid fun w => valid_any a ha.1 ha.2 w
  by_cases hc : validF a = true ∧ 0 ≤ n ∧ n ≤ 64
  · obtain ⟨h1, h2, h3⟩ := hc
    have e : powR a n = powI n.toNat a := by unfold powR; rw [if_pos]; simp [h1, h2, h3]
    rw [e]
    have PC := Lib.hid (powI_cases h1)
    have PE : Hid (∀ k, powI k a = ((0, 0), 6) → ∀ j, powI (k + j) a = ((0, 0), 6)) := Lib.hid fun k h j => powI_err h j
    have d1 : decide (n < 0) = false := by simpa using h2
    have d2 : decide (64 < n) = false := by simpa using h3
    have CM : Hid (∀ k, (powI k a).2 = 0 → ∀ w, Calls Tryd.prog 18 #[.agg #[.int .i64 (powI k a).1.1, .int .i64 (powI k a).1.2], .agg #[.int .i64 a.1, .int .i64 a.2]] w fun e w' => e = .returned (.tuple #[.agg #[.int .i64 (powI (k + 1) a).1.1, .int .i64 (powI (k + 1) a).1.2], .int .i64 (powI (k + 1) a).2]) ∧ Below w.heap.size w w') := Lib.hid fun k hk w => by
      have hv := (powI_cases h1 k).resolve_right (fun e => by rw [e] at hk; cases hk)
      have := mul_any (powI k a).1 a (valid_In64 hv.2) ha w
      have e : powI (k + 1) a = mulR (powI k a).1 a := by
        show (if (powI k a).2 = 0 then mulR (powI k a).1 a else ((0, 0), (powI k a).2)) = _
        rw [if_pos hk]
      rwa [← e] at this
    have CW : Hid (∀ w, Calls Tryd.prog 56 #[.int .i64 1] w fun e w' => e = .returned (.agg #[.int .i64 1, .int .i64 1]) ∧ Below w.heap.size w w') := Lib.hid fun w => whole_any 1 w
    rw [h1] at VA
    clear e h1 ha
    obtain ⟨N, hN⟩ : ∃ N : Nat, n = N := ⟨n.toNat, by omega⟩
    subst hN
    rw [Int.toNat_natCast]
    go_enter Tryd.func25, Tryd.ntmps25
    go_wp2_with fail
    (with_reducible refine (VA.out _).mono ?_)
    rintro e w58 ⟨rfl, hb⟩
    have H59 := Lib.hid (((OwnC.new w #[.int .i64 a.1, .int .i64 a.2] 23).old (.cells #[.int .i64 0, .int .i64 0] 23)).below hb)
    have H60 := Lib.hid ((OwnC.new2 w (.cells #[.int .i64 a.1, .int .i64 a.2] 23) #[.int .i64 0, .int .i64 0] 23).below hb)
    have hb61 := bcall (bnew (bnew (Below.refl _ w) (.cells #[.int .i64 a.1, .int .i64 a.2] 23)) (.cells #[.int .i64 0, .int .i64 0] 23)) hb
    clear hb
    go_wp2_with fail
    (with_reducible refine (CW.out _).mono ?_)
    rintro e w62 ⟨rfl, hb⟩
    have H63 := Lib.hid ((H59.out).below hb)
    have H64 := Lib.hid ((H60.out).below hb)
    have hb65 := bcall hb61 hb
    clear hb hb61 H59 H60
    go_wp2_with fail
    have HM := Lib.hid (OwnC.new w62 #[.int .i64 1, .int .i64 1] 23)
    have HA := Lib.hid (H63.out.old (.cells #[.int .i64 1, .int .i64 1] 23))
    have HR := Lib.hid (H64.out.old (.cells #[.int .i64 1, .int .i64 1] 23))
    have HB := bnew hb65 (.cells #[.int .i64 1, .int .i64 1] 23)
    have hlt := H64.out.2.2
    clear hb65 H63 H64
    generalize (w62.alloc (.cells #[.int .i64 1, .int .i64 1] 23)) = w3 at *
    generalize w62.heap.size = m at *
    go_loopw [23] (fun x wr => ∃ i : Nat, i ≤ N ∧ x = .int .i64 (i : Int) ∧ (powI i a).2 = 0 ∧ OwnC wr m #[.int .i64 (powI i a).1.1, .int .i64 (powI i a).1.2] ∧ OwnC wr w.heap.size #[.int .i64 a.1, .int .i64 a.2] ∧ OwnC wr (w.heap.size + 1) #[.int .i64 0, .int .i64 0] ∧ Below w.heap.size w wr) (fun x _ => (N - intOf x).toNat)
    case atStart => exact ⟨0, Nat.zero_le _, rfl, rfl, HM.out, HA.out, HR.out, HB⟩
    case round =>
      obtain ⟨i, hi, rfl, h0, QM, QA, QR, QB⟩ := hrel
      have KM := Lib.hid QM
      have KA := Lib.hid QA
      have KR := Lib.hid QR
      have H0 := Lib.hid h0
      clear QM QA QR h0
      by_cases hlast : i = N
      · have dl : decide ((i : Int) < (N : Int)) = false := by simp; omega
        obtain ⟨⟨c0, c1⟩, ⟨c2, c3⟩, c4⟩ := KM.out.two
        obtain ⟨⟨r0, r1⟩, ⟨r2, r3⟩, r4⟩ := KR.out.two
        have dn : decide (i < N) = false := by simp; omega
        subst hlast
        go_wp2_with fail
        refine bodyPost_ret (v := .tuple #[.agg #[.int .i64 (powI i a).1.1, .int .i64 (powI i a).1.2], .int .i64 0]) ?_ rfl ⟨by rw [H0.out], ?_⟩
        · simp [results, Tryd.results25, go_sem, *]
        · repeat' first | (with_reducible assumption) | (with_reducible refine setB ?_ ?_) | omega
      · have dl : decide ((i : Int) < (N : Int)) = true := by simp; omega
        have CMi := Lib.hid (CM.out i H0.out)
        obtain ⟨⟨c0, c1⟩, ⟨c2, c3⟩, c4⟩ := KM.out.two
        obtain ⟨⟨r0, r1⟩, ⟨r2, r3⟩, r4⟩ := KA.out.two
        have dn : decide (i < N) = true := by simp; omega
        have ma : m ≠ w.heap.size := by omega
        have mr : m ≠ w.heap.size + 1 := by omega
        have wi : IntKind.i64.wrap ((i : Int) + 1) = (i : Int) + 1 := by rw [IntKind.wrap_i64]; omega
        rcases PC.out (i + 1) with ⟨k1, k2⟩ | k1
        · rw [k1] at CMi
          have K1 := Lib.hid k1
          clear k1 k2
          generalize hp : powI (i + 1) a = p at *
          go_wp2_with fail
          (with_reducible refine (CMi.out _).mono ?_)
          rintro e w8 ⟨rfl, hb⟩
          have JM := Lib.hid (KM.out.below hb)
          have JA := Lib.hid (KA.out.below hb)
          have JR := Lib.hid (KR.out.below hb)
          have JB := bcall QB hb
          obtain ⟨⟨q0, q1⟩, ⟨q2, q3⟩, q4⟩ := (KM.out.below hb).two
          clear hb c0 c1 c2 c3 c4 r0 r1 r2 r3 r4
          go_wp2_with fail
          go_roundw
          case rel =>
            refine ⟨i + 1, by omega, by simp, by rw [hp]; exact K1.out, ?_, (OwnC.set ma (OwnC.set ma JA.out)).old _, (OwnC.set mr (OwnC.set mr JR.out)).old _, ?_⟩
            · rw [hp]; exact (OwnC.put2 JM.out).old _
            · repeat' first | (with_reducible refine bnew ?_ _) | (with_reducible assumption) | (with_reducible refine setB ?_ ?_) | omega
          case measure => simp [intOf]; omega
        · rw [k1] at CMi
          have e : powI N a = ((0, 0), 6) := by
            have := PE.out (i + 1) k1 (N - (i + 1))
            rwa [show i + 1 + (N - (i + 1)) = N by omega] at this
          have HE := Lib.hid e
          clear k1 e
          go_wp2_with fail
          (with_reducible refine (CMi.out _).mono ?_)
          rintro e w8 ⟨rfl, hb⟩
          obtain ⟨⟨q0, q1⟩, ⟨q2, q3⟩, q4⟩ := (KR.out.below hb).two
          have JB := bcall QB hb
          clear hb c0 c1 c2 c3 c4 r0 r1 r2 r3 r4
          go_wp2_with fail
          refine bodyPost_ret (v := .tuple #[.agg #[.int .i64 0, .int .i64 0], .int .i64 6]) ?_ rfl ⟨by rw [HE.out], ?_⟩
          · simp [results, Tryd.results25, go_sem, *]
          · repeat' first | (with_reducible refine bnew ?_ _) | (with_reducible assumption) | (with_reducible refine setB ?_ ?_) | omega
  · have e : powR a n = ((0, 0), 1) := by
      unfold powR
      rw [if_neg]
      intro h
      simp only [Bool.and_eq_true, decide_eq_true_eq] at h
      exact hc h
    rw [e]
    have hc' : validF a = false ∨ (validF a = true ∧ decide (n < 0) = true) ∨ (validF a = true ∧ decide (n < 0) = false ∧ decide (64 < n) = true) := by
      rcases h : validF a with _ | _
      · left; rfl
      · right
        by_cases h0 : n < 0
        · left; exact ⟨rfl, by simpa using h0⟩
        · right; exact ⟨rfl, by simpa using h0, by simp only [decide_eq_true_eq]; rcases Int.lt_or_le 64 n with h' | h'
                                                   · exact h'
                                                   · exact absurd ⟨h, by omega, h'⟩ hc⟩
    clear hc e ha
    rcases hc' with h | ⟨h, d1⟩ | ⟨h, d1, d2⟩
    · rw [h] at VA
      clear h
      obtain ⟨a1, a2⟩ := a
      dsimp only at *
      go_enter Tryd.func25, Tryd.ntmps25
      go_wp2_with fail
      (with_reducible refine (VA.out _).mono ?_)
      rintro e w31 ⟨rfl, hb⟩
      have H32 := Lib.hid (((OwnC.new w #[.int .i64 a1, .int .i64 a2] 23).old (.cells #[.int .i64 0, .int .i64 0] 23)).below hb)
      have H33 := Lib.hid ((OwnC.new2 w (.cells #[.int .i64 a1, .int .i64 a2] 23) #[.int .i64 0, .int .i64 0] 23).below hb)
      have hb34 := bcall (bnew (bnew (Below.refl _ w) (.cells #[.int .i64 a1, .int .i64 a2] 23)) (.cells #[.int .i64 0, .int .i64 0] 23)) hb
      clear hb
      obtain ⟨⟨c35, c36⟩, ⟨c37, c38⟩, c39⟩ := H33.out.two
      go_wp2_with fail
      refine bodyPost_ret (v := .tuple #[.agg #[.int .i64 0, .int .i64 0], .int .i64 1]) ?_ rfl ⟨rfl, ?_⟩
      · simp [results, Tryd.results25, go_sem, *]
      · have hBB := hb34
        clear c35 c36 c37 c38 c39
        repeat' first | (with_reducible assumption) | (with_reducible exact Nat.le_refl _) | (with_reducible refine setB ?_ ?_) | (with_reducible refine Below.drew ?_) | (with_reducible refine bnew ?_ _) | omega
    · rw [h] at VA
      clear h
      obtain ⟨a1, a2⟩ := a
      dsimp only at *
      go_enter Tryd.func25, Tryd.ntmps25
      go_wp2_with fail
      (with_reducible refine (VA.out _).mono ?_)
      rintro e w40 ⟨rfl, hb⟩
      have H41 := Lib.hid (((OwnC.new w #[.int .i64 a1, .int .i64 a2] 23).old (.cells #[.int .i64 0, .int .i64 0] 23)).below hb)
      have H42 := Lib.hid ((OwnC.new2 w (.cells #[.int .i64 a1, .int .i64 a2] 23) #[.int .i64 0, .int .i64 0] 23).below hb)
      have hb43 := bcall (bnew (bnew (Below.refl _ w) (.cells #[.int .i64 a1, .int .i64 a2] 23)) (.cells #[.int .i64 0, .int .i64 0] 23)) hb
      clear hb
      obtain ⟨⟨c44, c45⟩, ⟨c46, c47⟩, c48⟩ := H42.out.two
      go_wp2_with fail
      refine bodyPost_ret (v := .tuple #[.agg #[.int .i64 0, .int .i64 0], .int .i64 1]) ?_ rfl ⟨rfl, ?_⟩
      · simp [results, Tryd.results25, go_sem, *]
      · have hBB := hb43
        clear c44 c45 c46 c47 c48
        repeat' first | (with_reducible assumption) | (with_reducible exact Nat.le_refl _) | (with_reducible refine setB ?_ ?_) | (with_reducible refine Below.drew ?_) | (with_reducible refine bnew ?_ _) | omega
    · rw [h] at VA
      clear h
      obtain ⟨a1, a2⟩ := a
      dsimp only at *
      go_enter Tryd.func25, Tryd.ntmps25
      go_wp2_with fail
      (with_reducible refine (VA.out _).mono ?_)
      rintro e w49 ⟨rfl, hb⟩
      have H50 := Lib.hid (((OwnC.new w #[.int .i64 a1, .int .i64 a2] 23).old (.cells #[.int .i64 0, .int .i64 0] 23)).below hb)
      have H51 := Lib.hid ((OwnC.new2 w (.cells #[.int .i64 a1, .int .i64 a2] 23) #[.int .i64 0, .int .i64 0] 23).below hb)
      have hb52 := bcall (bnew (bnew (Below.refl _ w) (.cells #[.int .i64 a1, .int .i64 a2] 23)) (.cells #[.int .i64 0, .int .i64 0] 23)) hb
      clear hb
      obtain ⟨⟨c53, c54⟩, ⟨c55, c56⟩, c57⟩ := H51.out.two
      go_wp2_with fail
      refine bodyPost_ret (v := .tuple #[.agg #[.int .i64 0, .int .i64 0], .int .i64 1]) ?_ rfl ⟨rfl, ?_⟩
      · simp [results, Tryd.results25, go_sem, *]
      · have hBB := hb52
        clear c53 c54 c55 c56 c57
        repeat' first | (with_reducible assumption) | (with_reducible exact Nat.le_refl _) | (with_reducible refine setB ?_ ?_) | (with_reducible refine Below.drew ?_) | (with_reducible refine bnew ?_ _) | omega
end Go.Proofs.YtinnlahmlepeeaaDoor
