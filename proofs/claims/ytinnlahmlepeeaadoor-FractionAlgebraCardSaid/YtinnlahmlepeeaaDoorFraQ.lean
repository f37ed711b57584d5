/- Contracts: unfold and its closure. -/
import Derived.Test.YtinnlahmlepeeaaDoorFraP
import Derived.Test.YtinnlahmlepeeaaDoorFraL
import Derived.Deep.RegionHeld3
import Derived.Laws.EntriesVeiled
namespace Go.Proofs.YtinnlahmlepeeaaDoor
open Go.RowKit
/-- The closure that calls itself through the box p. -/
def cloV (p : Nat) : Value := .func (.func 76) #[] #[.pointer (some ⟨p, 0, none⟩)]
abbrev SC (w3 : World) (n m p : Nat) (x y u v z : Value) (w' : World) : Prop := w'.cell? ⟨n, 0, none⟩ = some x ∧ w'.cell? ⟨n, 1, none⟩ = some y ∧ w'.cell? ⟨m, 0, none⟩ = some u ∧ w'.cell? ⟨m, 1, none⟩ = some v ∧ w'.cell? ⟨p, 0, none⟩ = some z ∧ Below w3.heap.size w3 w'
theorem mkC {w3 w' : World} {n m p : Nat} {x y u v z : Value} (h : Hid (OwnC w3 n #[x, y])) (h' : Hid (OwnC w3 m #[u, v])) (hp : w3.cell? ⟨p, 0, none⟩ = some z) (hb : Below w3.heap.size w3 w') : SC w3 n m p x y u v z w' :=
  have a := (h.out.below hb).two
  have b := (h'.out.below hb).two
  ⟨a.1.1, a.1.2, b.1.1, b.1.2, keepc hp hb, hb⟩
theorem getC {w3 w' : World} {n m p : Nat} {x y u v z : Value} (h : SC w3 n m p x y u v z w') : Below w3.heap.size w3 w' := h.2.2.2.2.2
theorem closeC {wq wx w : World} {n p i j k : Nat} {s1 s2 : Int} {ca cb cr : Array Value} (HA : Hid (OwnC wq i ca)) (HB : Hid (OwnC wq j cb)) (HR : Hid (OwnC wq k cr)) (hb : Below w.heap.size w wq)
    (B : Below wq.heap.size wq wx) (hp : n + 2 < p) (hO : OwnC wx p #[.int .i64 s1, .int .i64 s2]) :
    (∃ p : Nat, Value.pointer (some ⟨p, 0, none⟩) = .pointer (some ⟨p, 0, none⟩) ∧ n + 2 < p ∧ OwnC wx p #[.int .i64 s1, .int .i64 s2]) ∧ OwnC wx i ca ∧ OwnC wx j cb ∧ OwnC wx k cr ∧ Below w.heap.size w wx :=
  ⟨⟨p, rfl, hp, hO⟩, HA.out.below B, HB.out.below B, HR.out.below B, bcall hb B⟩
/-- A pointer to a new box of two numbers. -/
def Pi3 (s : Value) (wx : World) (n : Nat) (s1 s2 : Int) : Prop := ∃ p : Nat, s = .pointer (some ⟨p, 0, none⟩) ∧ n + 2 < p ∧ OwnC wx p #[.int .i64 s1, .int .i64 s2]
theorem closePi {wq wx w : World} {n p i j k : Nat} {s1 s2 : Int} {ca cb cr : Array Value} (HA : Hid (OwnC wq i ca)) (HB : Hid (OwnC wq j cb)) (HR : Hid (OwnC wq k cr)) (hb : Below w.heap.size w wq)
    (B : Below wq.heap.size wq wx) (hp : n + 2 < p) (hO : OwnC wx p #[.int .i64 s1, .int .i64 s2]) :
    Pi3 (.pointer (some ⟨p, 0, none⟩)) wx n s1 s2 ∧ OwnC wx i ca ∧ OwnC wx j cb ∧ OwnC wx k cr ∧ Below w.heap.size w wx :=
  ⟨⟨p, rfl, hp, hO⟩, HA.out.below B, HB.out.below B, HR.out.below B, bcall hb B⟩
set_option maxHeartbeats 4000000 in
theorem clo_any : ∀ (k : Nat) (a b : F2), Rng a b → In64 a.1 → In64 b.1 → In64 a.2 → In64 b.2 → a.2.natAbs + b.2.natAbs ≤ k → ∀ (w : World) (p : Nat), w.cell? ⟨p, 0, none⟩ = some (cloV p) →
    Calls Tryd.prog 76 #[.agg #[.int .i64 a.1, .int .i64 a.2], .agg #[.int .i64 b.1, .int .i64 b.2], .pointer (some ⟨p, 0, none⟩)] w fun e w' => e = .returned (.agg #[.int .i64 (unfN k a b).1, .int .i64 (unfN k a b).2]) ∧ Below w.heap.size w w' := by
  intro k
  induction k with
  | zero => intro a b h _ _ _ _ hk; exfalso; have := h.a2; omega
  | succ k ih =>
    intro a b h i1 i2 i3 i4 hk w p hp
    have hle := unfN_le (k + 1) a b h hk
    have CW : Hid (∀ n, ∀ w, Calls Tryd.prog 56 #[.int .i64 n] w fun e w' => e = .returned (.agg #[.int .i64 n, .int .i64 1]) ∧ Below w.heap.size w w') := Lib.hid fun n w => whole_any n w
    have q1 : a.1.tdiv a.2 = a.1 / a.2 := Int.tdiv_eq_ediv_of_nonneg (Int.le_of_lt h.a1)
    have q2 : b.1.tdiv b.2 = b.1 / b.2 := Int.tdiv_eq_ediv_of_nonneg (Int.le_of_lt h.b1)
    have f0 : 0 ≤ a.1 / a.2 := Int.ediv_nonneg (Int.le_of_lt h.a1) (Int.le_of_lt h.a2)
    have g0 : 0 ≤ b.1 / b.2 := Int.ediv_nonneg (Int.le_of_lt h.b1) (Int.le_of_lt h.b2)
    have f1 : a.1 / a.2 ≤ a.1 := Int.ediv_le_self _ (Int.le_of_lt h.a1)
    have g1 : b.1 / b.2 ≤ b.1 := Int.ediv_le_self _ (Int.le_of_lt h.b1)
    have wf : IntKind.i64.wrap (a.1 / a.2) = a.1 / a.2 := by obtain ⟨x, y⟩ := i1; rw [IntKind.wrap_i64]; omega
    have wg : IntKind.i64.wrap (b.1 / b.2) = b.1 / b.2 := by obtain ⟨x, y⟩ := i2; rw [IntKind.wrap_i64]; omega
    have p1 := h.a1
    have p2 := h.a2
    have p3 := h.b1
    have p4 := h.b2
    by_cases h1 : a.2 = 1
    · rw [show unfN (k + 1) a b = a by unfold unfN; rw [if_pos h1]]
      clear ih CW hle hk h i1 i2 i3 i4
      obtain ⟨a1, a2⟩ := a
      obtain ⟨b1, b2⟩ := b
      dsimp only at *
      subst h1
      have dz : a1 / 1 = a1 := Int.ediv_one a1
      go_enter Tryd.func76, Tryd.ntmps76
      go_wp2_with fail
      refine bodyPost_ret (v := .agg #[.int .i64 a1, .int .i64 1]) ?_ rfl ⟨rfl, ?_⟩
      · simp [results, Tryd.results76, go_sem, *]
      · have hBB := (bnew (bnew (bnew (Below.refl _ w) (.cells #[.int .i64 a1, .int .i64 1] 23)) (.cells #[.int .i64 b1, .int .i64 b2] 23)) (.cells #[.int .i64 a1, .int .i64 1] 23))
        repeat' first | (with_reducible assumption) | (with_reducible exact Nat.le_refl _) | (with_reducible refine setB ?_ ?_) | (with_reducible refine Below.drew ?_) | (with_reducible refine bnew ?_ _) | omega
    · by_cases h2 : a.1 / a.2 < b.1 / b.2
      · rw [show unfN (k + 1) a b = (a.1 / a.2 + 1, 1) by unfold unfN; rw [if_neg h1, if_pos h2]] at *
        have d1 : (a.2 == 1) = false := by simpa using h1
        have w1 : IntKind.i64.wrap (a.1 / a.2 + 1) = a.1 / a.2 + 1 := by obtain ⟨x, y⟩ := i1; have := hle.2.1.1; dsimp only at this; rw [IntKind.wrap_i64]; omega
        have CWf := Lib.hid (CW.out (a.1 / a.2 + 1))
        have dz : a.2 ≠ 0 := by omega
        have dz2 : b.2 ≠ 0 := by omega
        clear ih CW hle hk h i1 i2 i3 i4
        obtain ⟨a1, a2⟩ := a
        obtain ⟨b1, b2⟩ := b
        dsimp only at *
        go_enter Tryd.func76, Tryd.ntmps76
        go_wp2_with fail
        (with_reducible refine (CWf.out _).mono ?_)
        rintro e w1 ⟨rfl, hb⟩
        have H2 := Lib.hid ((((OwnC.new w #[.int .i64 a1, .int .i64 a2] 23).old (.cells #[.int .i64 b1, .int .i64 b2] 23)).old (.cells #[.int .i64 0, .int .i64 0] 23)).below hb)
        have H3 := Lib.hid (((OwnC.new2 w (.cells #[.int .i64 a1, .int .i64 a2] 23) #[.int .i64 b1, .int .i64 b2] 23).old (.cells #[.int .i64 0, .int .i64 0] 23)).below hb)
        have H4 := Lib.hid ((OwnC.new3 w (.cells #[.int .i64 a1, .int .i64 a2] 23) (.cells #[.int .i64 b1, .int .i64 b2] 23) #[.int .i64 0, .int .i64 0] 23).below hb)
        have hb5 := bcall (bnew (bnew (bnew (Below.refl _ w) (.cells #[.int .i64 a1, .int .i64 a2] 23)) (.cells #[.int .i64 b1, .int .i64 b2] 23)) (.cells #[.int .i64 0, .int .i64 0] 23)) hb
        clear hb
        obtain ⟨⟨c6, c7⟩, ⟨c8, c9⟩, c10⟩ := H4.out.two
        go_wp2_with fail
        refine bodyPost_ret (v := .agg #[.int .i64 (a1 / a2 + 1), .int .i64 1]) ?_ rfl ⟨rfl, ?_⟩
        · simp [results, Tryd.results76, go_sem, *]
        · have hBB := hb5
          clear c6 c7 c8 c9 c10
          repeat' first | (with_reducible assumption) | (with_reducible exact Nat.le_refl _) | (with_reducible refine setB ?_ ?_) | (with_reducible refine Below.drew ?_) | (with_reducible refine bnew ?_ _) | omega
      · obtain ⟨hn, hfg⟩ := h.next h1 h2
        have e : unfN (k + 1) a b = (a.1 / a.2 * (unfN k (b.2, b.1 % b.2) (a.2, a.1 % a.2)).1 + (unfN k (b.2, b.1 % b.2) (a.2, a.1 % a.2)).2, (unfN k (b.2, b.1 % b.2) (a.2, a.1 % a.2)).1) := by
          show (if a.2 = 1 then a else if a.1 / a.2 < b.1 / b.2 then (a.1 / a.2 + 1, 1) else _) = _
          rw [if_neg h1, if_neg h2]
        rw [e] at hle ⊢
        have ra := Int.emod_nonneg a.1 (show a.2 ≠ 0 by omega)
        have rb := Int.emod_nonneg b.1 (show b.2 ≠ 0 by omega)
        have la := Int.emod_lt_of_pos a.1 p2
        have lb := Int.emod_lt_of_pos b.1 p4
        have hi := unfN_le k _ _ hn (by show (b.1 % b.2).natAbs + (a.1 % a.2).natAbs ≤ k; omega)
        have IH := Lib.hid (fun w p hp => ih (b.2, b.1 % b.2) (a.2, a.1 % a.2) hn i4 i3 (by show In64 (b.1 % b.2); unfold In64 at *; omega) (by show In64 (a.1 % a.2); unfold In64 at *; omega) (by show (b.1 % b.2).natAbs + (a.1 % a.2).natAbs ≤ k; omega) w p hp)
        clear ih e
        have d1 : (a.2 == 1) = false := by simpa using h1
        have h2' : ¬ b.1 / b.2 < b.1 / b.2 := by omega
        have d2 : decide (a.1 / a.2 < b.1 / b.2) = false := by simpa using h2
        have dz : a.2 ≠ 0 := by omega
        have dz2 : b.2 ≠ 0 := by omega
        have t1 : a.1.tmod a.2 = a.1 % a.2 := Int.tmod_eq_emod_of_nonneg (by omega)
        have t2 : b.1.tmod b.2 = b.1 % b.2 := Int.tmod_eq_emod_of_nonneg (by omega)
        generalize unfN k (b.2, b.1 % b.2) (a.2, a.1 % a.2) = u at *
        dsimp only at IH hi hle
        have m3 : 0 ≤ a.1 / a.2 * u.1 := Int.mul_nonneg f0 (by omega)
        have w1 : wrap64 (a.1 / a.2 * u.1) = a.1 / a.2 * u.1 := by obtain ⟨x, y⟩ := i1; unfold wrap64; omega
        have w2 : wrap64 (a.1 / a.2 * u.1 + u.2) = a.1 / a.2 * u.1 + u.2 := by obtain ⟨x, y⟩ := i1; unfold wrap64; omega
        clear CW hk h hn hi hle i1 i2 i3 i4 hfg h2 h2'
        obtain ⟨a1, a2⟩ := a
        obtain ⟨b1, b2⟩ := b
        dsimp only at *
        obtain ⟨u1, u2⟩ := u
        dsimp only at *
        go_enter Tryd.func76, Tryd.ntmps76
        go_wp2_with fail
        have HA := Lib.hid (((OwnC.new w #[.int .i64 a1, .int .i64 a2] 23).old (.cells #[.int .i64 b1, .int .i64 b2] 23)).old (.cells #[.int .i64 0, .int .i64 0] 23))
        have HB := Lib.hid ((OwnC.new2 w (.cells #[.int .i64 a1, .int .i64 a2] 23) #[.int .i64 b1, .int .i64 b2] 23).old (.cells #[.int .i64 0, .int .i64 0] 23))
        have HR := Lib.hid (OwnC.new3 w (.cells #[.int .i64 a1, .int .i64 a2] 23) (.cells #[.int .i64 b1, .int .i64 b2] 23) #[.int .i64 0, .int .i64 0] 23)
        have HW := bnew (bnew (bnew (Below.refl _ w) (.cells #[.int .i64 a1, .int .i64 a2] 23)) (.cells #[.int .i64 b1, .int .i64 b2] 23)) (.cells #[.int .i64 0, .int .i64 0] 23)
        have HP := keepc hp HW
        generalize (((w.alloc (.cells #[.int .i64 a1, .int .i64 a2] 23)).alloc (.cells #[.int .i64 b1, .int .i64 b2] 23)).alloc (.cells #[.int .i64 0, .int .i64 0] 23)) = w3 at *
        clear hp
        have hlt := HR.out.2.2
        obtain ⟨⟨ya, yb⟩, yc, yl⟩ := HA.out.two
        obtain ⟨⟨xa, xb⟩, xc, xl⟩ := HB.out.two
        go_cut [7] (fun s wx => Pi3 s wx w.heap.size u1 u2 ∧ OwnC wx w.heap.size #[.int .i64 a1, .int .i64 a2] ∧ OwnC wx (w.heap.size + 1) #[.int .i64 b1, .int .i64 b2] ∧ OwnC wx (w.heap.size + 1 + 1) #[.int .i64 0, .int .i64 0] ∧ Below w.heap.size w wx)
        case first =>
          go_region_held3 (fun w' => w'.cell? ⟨w.heap.size, 0, none⟩ = some (.int .i64 a1) ∧ w'.cell? ⟨w.heap.size, 1, none⟩ = some (.int .i64 a2) ∧ w'.cell? ⟨w.heap.size + 1, 0, none⟩ = some (.int .i64 b1) ∧ w'.cell? ⟨w.heap.size + 1, 1, none⟩ = some (.int .i64 b2) ∧ w'.cell? ⟨p, 0, none⟩ = some (.func (.func 76) #[] #[.pointer (some ⟨p, 0, none⟩)]) ∧ Below w3.heap.size w3 w')
            ((refine mkC HA HB HP ?_; repeat' first | (with_reducible assumption) | (with_reducible exact Below.refl _ _) | (with_reducible refine Below.drew ?_) | (with_reducible refine bnew ?_ _) | (with_reducible refine setB ?_ ?_) | omega))
            ((go_at_call 76; (with_reducible refine (IH.out _ p (keepc HP (getC (by assumption)))).mono ?_); rintro e w' ⟨rfl, hb⟩; have hx := bcall (getC (by assumption)) hb; have hxs := hx.size; (first | (have ZP := Lib.hid (OwnC.below (OwnC.new _ _ _) hb)) | (have ZP := Lib.hid (OwnC.below (OwnC.drew (OwnC.new _ _ _)) hb)) | skip); clear hb; (try (obtain ⟨⟨z0, z1⟩, ⟨z2, z3⟩, z4⟩ := ZP.out.two))))
          all_goals go_wp2_with fail
          all_goals go_meet
          all_goals refine closePi HA HB HR HW ?_ ?_ ?_
          all_goals first
            | (with_reducible exact OwnC.new _ _ _) | (with_reducible exact OwnC.put2 ZP.out) | exact OwnC.put2 ZP.out
            | omega
            | (repeat' first | (with_reducible assumption) | (with_reducible exact Below.refl _ _) | (with_reducible refine bnew ?_ _) | (with_reducible refine Below.drew ?_) | (with_reducible refine setB ?_ ?_) | omega)
        case rest =>
          clear HA HB HR HW HP hlt ya yb yc yl xa xb xc xl IH
          obtain ⟨⟨pp, rfl, hpp, QS⟩, QA, QB, QR, QW⟩ := hcut
          obtain ⟨⟨ya, yb⟩, ⟨yc, yd⟩, ye⟩ := QS.two
          obtain ⟨⟨xa, xb⟩, ⟨xc, xd⟩, xe⟩ := QR.two
          clear QS QA QB QR
          go_wp2_with fail
          refine bodyPost_ret (v := .agg #[.int .i64 (a1 / a2 * u1 + u2), .int .i64 u1]) ?_ rfl ⟨rfl, ?_⟩
          · simp [results, Tryd.results76, go_sem, *]
          · have hBB := (bnew (bnew (bnew QW (.cells #[.int .i64 a1, .int .i64 a2] 23)) (.cells #[.int .i64 b1, .int .i64 b2] 23)) (.cells #[.int .i64 0, .int .i64 0] 23))
            repeat' first | (with_reducible assumption) | (with_reducible exact Nat.le_refl _) | (with_reducible refine setB ?_ ?_) | (with_reducible refine Below.drew ?_) | (with_reducible refine bnew ?_ _) | omega
def unfR (a b : F2) : F2 := unfN (a.2.natAbs + b.2.natAbs) a b
theorem unfold_any (a b : F2) (h : Rng a b) (ha : In64 a.1 ∧ In64 a.2) (hb : In64 b.1 ∧ In64 b.2) (w : World) : Calls Tryd.prog 59 #[.agg #[.int .i64 a.1, .int .i64 a.2], .agg #[.int .i64 b.1, .int .i64 b.2]] w fun e w' => e = .returned (.agg #[.int .i64 (unfR a b).1, .int .i64 (unfR a b).2]) ∧ Below w.heap.size w w' := by
  have CU := Lib.hid (fun w p hp => clo_any (a.2.natAbs + b.2.natAbs) a b h ha.1 hb.1 ha.2 hb.2 (Nat.le_refl _) w p hp)
  clear h ha hb
  unfold unfR
  generalize unfN (a.2.natAbs + b.2.natAbs) a b = u at *
  obtain ⟨a1, a2⟩ := a
  obtain ⟨b1, b2⟩ := b
  dsimp only at *
  go_enter Tryd.func59, Tryd.ntmps59
  go_wp2_with fail
  have HP : ((((w.alloc (.cells #[.int .i64 a1, .int .i64 a2] 23)).alloc (.cells #[.int .i64 b1, .int .i64 b2] 23)).alloc (.cells #[.int .i64 0, .int .i64 0] 23)).alloc (.cells #[.func (.func 76) #[] #[.pointer (some ⟨w.heap.size + 1 + 1 + 1, 0, none⟩)]] 36)).cell? ⟨w.heap.size + 1 + 1 + 1, 0, none⟩ = some (cloV (w.heap.size + 1 + 1 + 1)) := (OwnC.new4 w (.cells #[.int .i64 a1, .int .i64 a2] 23) (.cells #[.int .i64 b1, .int .i64 b2] 23) (.cells #[.int .i64 0, .int .i64 0] 23) #[.func (.func 76) #[] #[.pointer (some ⟨w.heap.size + 1 + 1 + 1, 0, none⟩)]] 36).1 0 _ rfl
  have HB := bnew (bnew (bnew (bnew (Below.refl _ w) (.cells #[.int .i64 a1, .int .i64 a2] 23)) (.cells #[.int .i64 b1, .int .i64 b2] 23)) (.cells #[.int .i64 0, .int .i64 0] 23)) (.cells #[.func (.func 76) #[] #[.pointer (some ⟨w.heap.size + 1 + 1 + 1, 0, none⟩)]] 36)
  have HR := Lib.hid ((OwnC.new3 w (.cells #[.int .i64 a1, .int .i64 a2] 23) (.cells #[.int .i64 b1, .int .i64 b2] 23) #[.int .i64 0, .int .i64 0] 23).old (.cells #[.func (.func 76) #[] #[.pointer (some ⟨w.heap.size + 1 + 1 + 1, 0, none⟩)]] 36))
  (with_reducible refine (CU.out _ _ HP).mono ?_)
  rintro e w1 ⟨rfl, hb⟩
  obtain ⟨⟨xa, xb⟩, ⟨xc, xd⟩, xe⟩ := (HR.out.below hb).two
  have HX := bcall HB hb
  clear hb HB HR HP CU
  go_wp2_with fail
  refine bodyPost_ret (v := .agg #[.int .i64 u.1, .int .i64 u.2]) ?_ rfl ⟨rfl, ?_⟩
  · simp [results, Tryd.results59, go_sem, *]
  · have hBB := HX
    repeat' first | (with_reducible assumption) | (with_reducible exact Nat.le_refl _) | (with_reducible refine setB ?_ ?_) | (with_reducible refine Below.drew ?_) | (with_reducible refine bnew ?_ _) | omega
end Go.Proofs.YtinnlahmlepeeaaDoor
