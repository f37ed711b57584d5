/- The reference's division, bit by bit. -/
import Derived.Test.YtinnlahmlepeeaaDoorFraT
import Derived.RegionTactic
import Derived.Deep.DeepCutAuto
import Derived.Deep.CutBlock
namespace Go.Proofs.YtinnlahmlepeeaaDoor
open Go.RowKit
theorem OwnC.put3 {w : World} {b : Nat} {x y z x' y' z' : Value} (h : OwnC w b #[x, y, z]) : OwnC (((w.setCell ⟨b, 0, none⟩ x').setCell ⟨b, 1, none⟩ y').setCell ⟨b, 2, none⟩ z') b #[x', y', z'] := by
  have t := h.three
  have n01 : (⟨b, 0, none⟩ : Addr) ≠ ⟨b, 1, none⟩ := fun e => by injection e with _ e; omega
  have n02 : (⟨b, 0, none⟩ : Addr) ≠ ⟨b, 2, none⟩ := fun e => by injection e with _ e; omega
  have n12 : (⟨b, 1, none⟩ : Addr) ≠ ⟨b, 2, none⟩ := fun e => by injection e with _ e; omega
  have c0 : (((w.setCell ⟨b, 0, none⟩ x').setCell ⟨b, 1, none⟩ y').setCell ⟨b, 2, none⟩ z').cell? ⟨b, 0, none⟩ = some x' :=
    (World.cell?_setCell_other _ _ _ _ n02.symm).trans ((World.cell?_setCell_other _ _ _ _ n01.symm).trans (World.cell?_setCell_same w _ _ t.1.1))
  have c1 : (((w.setCell ⟨b, 0, none⟩ x').setCell ⟨b, 1, none⟩ y').setCell ⟨b, 2, none⟩ z').cell? ⟨b, 1, none⟩ = some y' :=
    (World.cell?_setCell_other _ _ _ _ n12.symm).trans (World.cell?_setCell_same _ _ _ ((World.cell?_setCell_other _ _ _ _ n01).trans t.1.2.1))
  have c2 : (((w.setCell ⟨b, 0, none⟩ x').setCell ⟨b, 1, none⟩ y').setCell ⟨b, 2, none⟩ z').cell? ⟨b, 2, none⟩ = some z' :=
    World.cell?_setCell_same _ _ _ ((World.cell?_setCell_other _ _ _ _ n12).trans ((World.cell?_setCell_other _ _ _ _ n02).trans t.1.2.2))
  refine ⟨fun k v hk => ?_, fun k hk => ?_, by have := h.2.2; simpa using this⟩
  · rcases k with _ | _ | _ | k
    · cases hk; exact c0
    · cases hk; exact c1
    · cases hk; exact c2
    · simp at hk
  · rw [World.frozen?_setCell, World.frozen?_setCell, World.frozen?_setCell]
    rcases k with _ | _ | _ | k
    · exact t.2.1.1
    · exact t.2.1.2.1
    · exact t.2.1.2.2
    · refine h.2.1 _ (fun e' => hk ?_)
      rw [World.cell?_setCell_other _ _ _ _ (fun e => by injection e with _ e; omega), World.cell?_setCell_other _ _ _ _ (fun e => by injection e with _ e; omega), World.cell?_setCell_other _ _ _ _ (fun e => by injection e with _ e; omega)]
      exact e'
theorem OwnC.put31 {w : World} {b : Nat} {x y z y' : Value} (h : OwnC w b #[x, y, z]) : OwnC (w.setCell ⟨b, 1, none⟩ y') b #[x, y', z] := by
  have t := h.three
  have n01 : (⟨b, 0, none⟩ : Addr) ≠ ⟨b, 1, none⟩ := fun e => by injection e with _ e; omega
  have n12 : (⟨b, 2, none⟩ : Addr) ≠ ⟨b, 1, none⟩ := fun e => by injection e with _ e; omega
  refine ⟨fun k v hk => ?_, fun k hk => ?_, by have := h.2.2; simpa using this⟩
  · rcases k with _ | _ | _ | k
    · cases hk; exact (World.cell?_setCell_other _ _ _ _ n01.symm).trans t.1.1
    · cases hk; exact World.cell?_setCell_same _ _ _ t.1.2.1
    · cases hk; exact (World.cell?_setCell_other _ _ _ _ n12.symm).trans t.1.2.2
    · simp at hk
  · rw [World.frozen?_setCell]
    rcases k with _ | _ | _ | k
    · exact t.2.1.1
    · exact t.2.1.2.1
    · exact t.2.1.2.2
    · refine h.2.1 _ (fun e' => hk ?_)
      rw [World.cell?_setCell_other _ _ _ _ (fun e => by injection e with _ e; omega)]
      exact e'
/-- The six boxes of the division. -/
def D6 (w0 : World) (x y rx ry q r : Array Value) (w : World) : Prop :=
  OwnC w w0.heap.size x ∧ OwnC w (w0.heap.size + 1) y ∧ OwnC w (w0.heap.size + 1 + 1) rx ∧ OwnC w (w0.heap.size + 1 + 1 + 1) ry ∧ OwnC w (w0.heap.size + 1 + 1 + 1 + 1) q ∧ OwnC w (w0.heap.size + 1 + 1 + 1 + 1 + 1) r ∧ Below w0.heap.size w0 w
theorem D6.below {w0 w w' : World} {x y rx ry q r : Array Value} (h : D6 w0 x y rx ry q r w) (hb : Below w.heap.size w w') : D6 w0 x y rx ry q r w' :=
  ⟨h.1.below hb, h.2.1.below hb, h.2.2.1.below hb, h.2.2.2.1.below hb, h.2.2.2.2.1.below hb, h.2.2.2.2.2.1.below hb, bcall h.2.2.2.2.2.2 hb⟩
theorem D6.drew {w0 w : World} {x y rx ry q r : Array Value} (h : D6 w0 x y rx ry q r w) : D6 w0 x y rx ry q r w.drew := ⟨h.1, h.2.1, h.2.2.1, h.2.2.2.1, h.2.2.2.2.1, h.2.2.2.2.2.1, Below.drew h.2.2.2.2.2.2⟩
theorem D6.putR {w0 w : World} {x y rx ry q : Array Value} {a b c a' b' c' : Value} (h : D6 w0 x y rx ry q #[a, b, c] w) :
    D6 w0 x y rx ry q #[a', b', c'] (((w.setCell ⟨w0.heap.size + 1 + 1 + 1 + 1 + 1, 0, none⟩ a').setCell ⟨w0.heap.size + 1 + 1 + 1 + 1 + 1, 1, none⟩ b').setCell ⟨w0.heap.size + 1 + 1 + 1 + 1 + 1, 2, none⟩ c') := by
  obtain ⟨h1, h2, h3, h4, h5, h6, h7⟩ := h
  have n1 : w0.heap.size + 1 + 1 + 1 + 1 + 1 ≠ w0.heap.size := by omega
  have n2 : w0.heap.size + 1 + 1 + 1 + 1 + 1 ≠ w0.heap.size + 1 := by omega
  have n3 : w0.heap.size + 1 + 1 + 1 + 1 + 1 ≠ w0.heap.size + 1 + 1 := by omega
  have n4 : w0.heap.size + 1 + 1 + 1 + 1 + 1 ≠ w0.heap.size + 1 + 1 + 1 := by omega
  have n5 : w0.heap.size + 1 + 1 + 1 + 1 + 1 ≠ w0.heap.size + 1 + 1 + 1 + 1 := by omega
  exact ⟨OwnC.set n1 (OwnC.set n1 (OwnC.set n1 h1)), OwnC.set n2 (OwnC.set n2 (OwnC.set n2 h2)), OwnC.set n3 (OwnC.set n3 (OwnC.set n3 h3)), OwnC.set n4 (OwnC.set n4 (OwnC.set n4 h4)), OwnC.set n5 (OwnC.set n5 (OwnC.set n5 h5)), OwnC.put3 h6,
    setB (setB (setB h7 (by omega)) (by omega)) (by omega)⟩
theorem D6.putQ {w0 w : World} {x y rx ry r : Array Value} {a b c a' b' c' : Value} (h : D6 w0 x y rx ry #[a, b, c] r w) :
    D6 w0 x y rx ry #[a', b', c'] r (((w.setCell ⟨w0.heap.size + 1 + 1 + 1 + 1, 0, none⟩ a').setCell ⟨w0.heap.size + 1 + 1 + 1 + 1, 1, none⟩ b').setCell ⟨w0.heap.size + 1 + 1 + 1 + 1, 2, none⟩ c') := by
  obtain ⟨h1, h2, h3, h4, h5, h6, h7⟩ := h
  have n1 : w0.heap.size + 1 + 1 + 1 + 1 ≠ w0.heap.size := by omega
  have n2 : w0.heap.size + 1 + 1 + 1 + 1 ≠ w0.heap.size + 1 := by omega
  have n3 : w0.heap.size + 1 + 1 + 1 + 1 ≠ w0.heap.size + 1 + 1 := by omega
  have n4 : w0.heap.size + 1 + 1 + 1 + 1 ≠ w0.heap.size + 1 + 1 + 1 := by omega
  have n6 : w0.heap.size + 1 + 1 + 1 + 1 ≠ w0.heap.size + 1 + 1 + 1 + 1 + 1 := by omega
  exact ⟨OwnC.set n1 (OwnC.set n1 (OwnC.set n1 h1)), OwnC.set n2 (OwnC.set n2 (OwnC.set n2 h2)), OwnC.set n3 (OwnC.set n3 (OwnC.set n3 h3)), OwnC.set n4 (OwnC.set n4 (OwnC.set n4 h4)), OwnC.put3 h5, OwnC.set n6 (OwnC.set n6 (OwnC.set n6 h6)),
    setB (setB (setB h7 (by omega)) (by omega)) (by omega)⟩
theorem D6.putQ1 {w0 w : World} {x y rx ry r : Array Value} {a b c b' : Value} (h : D6 w0 x y rx ry #[a, b, c] r w) :
    D6 w0 x y rx ry #[a, b', c] r (w.setCell ⟨w0.heap.size + 1 + 1 + 1 + 1, 1, none⟩ b') := by
  obtain ⟨h1, h2, h3, h4, h5, h6, h7⟩ := h
  exact ⟨OwnC.set (by omega) h1, OwnC.set (by omega) h2, OwnC.set (by omega) h3, OwnC.set (by omega) h4, OwnC.put31 h5, OwnC.set (by omega) h6, setB h7 (by omega)⟩
theorem half_le {a : Int} (h0 : 0 ≤ a) (h : a < 170141183460469231731687303715884105728) : whi a < 9223372036854775808 := by unfold whi; omega
/-- One bit more. -/
theorem w_twice {a b : Int} (h0 : 0 ≤ a) (h : a < 170141183460469231731687303715884105728) (hb0 : 0 ≤ b) (hb : b < 2) : whi (2 * a + b) = whi a * 2 + wlo a / 9223372036854775808 ∧ wlo (2 * a + b) = wlo a % 9223372036854775808 * 2 + b := by
  unfold whi wlo
  omega
/-- One bit of a division. -/
theorem div_step {y X Q R b : Int} (hy : 0 < y) (hX : X = Q * y + R) (hR : 0 ≤ R ∧ R < y) (hb : 0 ≤ b ∧ b < 2) :
    (2 * R + b < y → (2 * X + b) / y = 2 * Q ∧ (2 * X + b) % y = 2 * R + b) ∧ (¬ 2 * R + b < y → (2 * X + b) / y = 2 * Q + 1 ∧ (2 * X + b) % y = 2 * R + b - y) := by
  subst hX
  constructor
  · intro h
    have e : 2 * (Q * y + R) + b = (2 * R + b) + 2 * Q * y := by grind
    rw [e]
    exact ⟨by rw [Int.add_mul_ediv_right _ _ (by omega), Int.ediv_eq_zero_of_lt (by omega) h]; omega, by rw [Int.add_mul_emod_self_right, Int.emod_eq_of_lt (by omega) h]⟩
  · intro h
    have e : 2 * (Q * y + R) + b = (2 * R + b - y) + (2 * Q + 1) * y := by grind
    rw [e]
    exact ⟨by rw [Int.add_mul_ediv_right _ _ (by omega), Int.ediv_eq_zero_of_lt (by omega) (by omega)]; omega, by rw [Int.add_mul_emod_self_right, Int.emod_eq_of_lt (by omega) (by omega)]⟩
set_option maxHeartbeats 20000000 in
theorem rdivide_any (x y : Int) (s t : Bool) (hx : InM x) (hy : 0 < y) (hy2 : y < 170141183460469231731687303715884105728) (w : World) : Calls Tryd.prog 72 #[.agg #[.int .u64 (whi x), .int .u64 (wlo x), .bool s], .agg #[.int .u64 (whi y), .int .u64 (wlo y), .bool t]] w fun e w' =>
    e = .returned (.tuple #[.agg #[.int .u64 (whi (x / y)), .int .u64 (wlo (x / y)), .bool false], .agg #[.int .u64 (whi (x % y)), .int .u64 (wlo (x % y)), .bool false]]) ∧ Below w.heap.size w w' := by
  have CB : Hid (∀ i : Nat, i ≤ 127 → ∀ w, Calls Tryd.prog 82 #[.agg #[.int .u64 (whi x), .int .u64 (wlo x), .bool s], .int .i64 (i : Int)] w fun e w' => e = .returned (.int .u64 (x / 2 ^ i % 2)) ∧ Below w.heap.size w w') := Lib.hid fun i hi w => by
    have := rbit_any x hx s (i : Int) (by omega) (by omega) w
    rwa [Int.toNat_natCast] at this
  have CA : Hid (∀ r, InM r → ∀ w, Calls Tryd.prog 75 #[.agg #[.int .u64 (whi y), .int .u64 (wlo y), .bool t], .agg #[.int .u64 (whi r), .int .u64 (wlo r), .bool false]] w fun e w' => e = .returned (.bool (decide (r < y))) ∧ Below w.heap.size w w') := Lib.hid fun r hr w => rabove_any y r ⟨by omega, by omega⟩ hr t false w
  have CP : Hid (∀ r, InM r → y ≤ r → ∀ w, Calls Tryd.prog 53 #[.agg #[.int .u64 (whi r), .int .u64 (wlo r), .bool false], .agg #[.int .u64 (whi y), .int .u64 (wlo y), .bool true]] w fun e w' => e = .returned (.agg #[.int .u64 (whi (r - y)), .int .u64 (wlo (r - y)), .bool false]) ∧ Below w.heap.size w w') := Lib.hid fun r hr hle w => by
    have := rplus_any r false y true hr ⟨by omega, by omega⟩ w
    have e1 : plusM r false y true = r - y := by unfold plusM; rw [if_neg (by decide), if_neg (by omega)]
    have e2 : plusS r false y true = false := by unfold plusS; rw [if_neg (by decide), if_neg (by omega)]
    rwa [e1, e2] at this
  have hx0 := hx.1
  have hx1 := hx.2
  have z1 : whi 0 = 0 := rfl
  have z2 : wlo 0 = 0 := rfl
  have s1 : ∀ (v : World) (o : Obj), (v.alloc o).heap.size = v.heap.size + 1 := fun v o => sz1 v o
  have H0 : D6 w #[.int .u64 (whi x), .int .u64 (wlo x), .bool s] #[.int .u64 (whi y), .int .u64 (wlo y), .bool t] #[.int .u64 0, .int .u64 0, .bool false] #[.int .u64 0, .int .u64 0, .bool false] #[.int .u64 0, .int .u64 0, .bool false] #[.int .u64 0, .int .u64 0, .bool false] ((((((w.alloc (.cells #[.int .u64 (whi x), .int .u64 (wlo x), .bool s] 54)).alloc (.cells #[.int .u64 (whi y), .int .u64 (wlo y), .bool t] 54)).alloc (.cells #[.int .u64 0, .int .u64 0, .bool false] 54)).alloc (.cells #[.int .u64 0, .int .u64 0, .bool false] 54)).alloc (.cells #[.int .u64 0, .int .u64 0, .bool false] 54)).alloc (.cells #[.int .u64 0, .int .u64 0, .bool false] 54)) := by
    refine ⟨?_, ?_, ?_, ?_, ?_, ?_, bnew (bnew (bnew (bnew (bnew (bnew (Below.refl _ w) _) _) _) _) _) _⟩
    · have h := OwnC.new w #[.int .u64 (whi x), .int .u64 (wlo x), .bool s] 54
      exact (((((h).old _).old _).old _).old _).old _
    · have h := OwnC.new (w.alloc (.cells #[.int .u64 (whi x), .int .u64 (wlo x), .bool s] 54)) #[.int .u64 (whi y), .int .u64 (wlo y), .bool t] 54
      simp only [s1] at h
      exact ((((h).old _).old _).old _).old _
    · have h := OwnC.new ((w.alloc (.cells #[.int .u64 (whi x), .int .u64 (wlo x), .bool s] 54)).alloc (.cells #[.int .u64 (whi y), .int .u64 (wlo y), .bool t] 54)) #[.int .u64 0, .int .u64 0, .bool false] 54
      simp only [s1] at h
      exact (((h).old _).old _).old _
    · have h := OwnC.new (((w.alloc (.cells #[.int .u64 (whi x), .int .u64 (wlo x), .bool s] 54)).alloc (.cells #[.int .u64 (whi y), .int .u64 (wlo y), .bool t] 54)).alloc (.cells #[.int .u64 0, .int .u64 0, .bool false] 54)) #[.int .u64 0, .int .u64 0, .bool false] 54
      simp only [s1] at h
      exact ((h).old _).old _
    · have h := OwnC.new ((((w.alloc (.cells #[.int .u64 (whi x), .int .u64 (wlo x), .bool s] 54)).alloc (.cells #[.int .u64 (whi y), .int .u64 (wlo y), .bool t] 54)).alloc (.cells #[.int .u64 0, .int .u64 0, .bool false] 54)).alloc (.cells #[.int .u64 0, .int .u64 0, .bool false] 54)) #[.int .u64 0, .int .u64 0, .bool false] 54
      simp only [s1] at h
      exact (h).old _
    · have h := OwnC.new (((((w.alloc (.cells #[.int .u64 (whi x), .int .u64 (wlo x), .bool s] 54)).alloc (.cells #[.int .u64 (whi y), .int .u64 (wlo y), .bool t] 54)).alloc (.cells #[.int .u64 0, .int .u64 0, .bool false] 54)).alloc (.cells #[.int .u64 0, .int .u64 0, .bool false] 54)).alloc (.cells #[.int .u64 0, .int .u64 0, .bool false] 54)) #[.int .u64 0, .int .u64 0, .bool false] 54
      simp only [s1] at h
      exact h
  have HH := Lib.hid H0
  clear H0
  go_enter Tryd.func72, Tryd.ntmps72
  go_wp2_with fail
  generalize ((((((w.alloc (.cells #[.int .u64 (whi x), .int .u64 (wlo x), .bool s] 54)).alloc (.cells #[.int .u64 (whi y), .int .u64 (wlo y), .bool t] 54)).alloc (.cells #[.int .u64 0, .int .u64 0, .bool false] 54)).alloc (.cells #[.int .u64 0, .int .u64 0, .bool false] 54)).alloc (.cells #[.int .u64 0, .int .u64 0, .bool false] 54)).alloc (.cells #[.int .u64 0, .int .u64 0, .bool false] 54)) = w6 at *
  go_loopw [8] (fun v wr => ∃ (i : Nat) (k : Int), i ≤ 128 ∧ k = (i : Int) - 1 ∧ v = .int .i64 k ∧ D6 w #[.int .u64 (whi x), .int .u64 (wlo x), .bool s] #[.int .u64 (whi y), .int .u64 (wlo y), .bool t] #[.int .u64 0, .int .u64 0, .bool false] #[.int .u64 0, .int .u64 0, .bool false] #[.int .u64 (whi (x / 2 ^ i / y)), .int .u64 (wlo (x / 2 ^ i / y)), .bool false] #[.int .u64 (whi (x / 2 ^ i % y)), .int .u64 (wlo (x / 2 ^ i % y)), .bool false] wr) (fun v _ => (intOf v + 1).toNat)
  case atStart =>
    refine ⟨128, 127, by omega, rfl, rfl, ?_⟩
    have e : x / 2 ^ 128 = 0 := Int.ediv_eq_zero_of_lt hx0 (by show x < 340282366920938463463374607431768211456; omega)
    rw [e, Int.zero_ediv, Int.zero_emod]
    exact HH.out
  case round =>
    obtain ⟨i, k, hi, hk, rfl, hD⟩ := hrel
    have HD := Lib.hid hD
    clear hD HH
    rcases i with _ | j
    · have d1 : decide ((0 : Int) ≤ k) = false := by simp; omega
      rw [Int.pow_zero, Int.ediv_one] at HD
      obtain ⟨-, -, K3, K4, K5, K6, KW⟩ := HD.out
      obtain ⟨⟨a1, a2, a3⟩, ⟨a4, a5, a6⟩, a7⟩ := K3.three
      obtain ⟨⟨b1, b2, b3⟩, ⟨b4, b5, b6⟩, b7⟩ := K4.three
      obtain ⟨⟨c1, c2, c3⟩, ⟨c4, c5, c6⟩, c7⟩ := K5.three
      obtain ⟨⟨e1, e2, e3⟩, ⟨e4, e5, e6⟩, e7⟩ := K6.three
      clear K3 K4 K5 K6 HD CB CA CP hk
      go_wp2_with fail
      go_region
      all_goals go_wp2_with fail
      all_goals refine bodyPost_ret (v := .tuple #[.agg #[.int .u64 (whi (x / y)), .int .u64 (wlo (x / y)), .bool false], .agg #[.int .u64 (whi (x % y)), .int .u64 (wlo (x % y)), .bool false]]) ?_ rfl ⟨rfl, ?_⟩
      all_goals first
        | (simp [results, Tryd.results72, go_sem, *]; done)
        | (repeat' first | (with_reducible assumption) | (with_reducible refine Below.drew ?_) | (with_reducible refine setB ?_ ?_) | omega)
    · have d1 : decide ((0 : Int) ≤ k) = true := by simp; omega
      have hj : k = (j : Int) := by omega
      have wk : IntKind.i64.wrap (k - 1) = k - 1 := by rw [IntKind.wrap_i64]; omega
      have CBj := Lib.hid (CB.out j (by omega))
      rw [← hj] at CBj
      have eX : x / 2 ^ (j + 1) = x / 2 ^ j / 2 := by rw [Int.pow_succ, Int.ediv_ediv_of_nonneg (Int.le_of_lt (Int.pow_pos (by omega)))]
      rw [eX] at HD
      have HJ := Lib.hid eX
      have y0 : 0 ≤ x / 2 ^ j := Int.ediv_nonneg hx0 (Int.le_of_lt (Int.pow_pos (by omega)))
      have y1 : x / 2 ^ j ≤ x := Int.ediv_le_self _ hx0
      have HJK := Lib.hid hj
      clear eX CB hj hk
      obtain ⟨V, hV⟩ : ∃ V, x / 2 ^ j = V := ⟨_, rfl⟩
      rw [hV] at HD CBj y0 y1
      have R0 := Int.emod_nonneg (V / 2) (show y ≠ 0 by omega)
      have R1 := Int.emod_lt_of_pos (V / 2) hy
      have Q0 : 0 ≤ V / 2 / y := Int.ediv_nonneg (by omega) (by omega)
      have Q1 : V / 2 / y ≤ V / 2 := Int.ediv_le_self _ (by omega)
      have hst := div_step (X := V / 2) (Q := V / 2 / y) (R := V / 2 % y) (b := V % 2) hy (by rw [Int.mul_comm]; exact (Int.mul_ediv_add_emod _ _).symm) ⟨R0, R1⟩ ⟨by omega, by omega⟩
      rw [show 2 * (V / 2) + V % 2 = V by omega] at hst
      have tw := w_twice (a := V / 2 % y) (b := V % 2) R0 (by omega) (by omega) (by omega)
      have tq := w_twice (a := V / 2 / y) (b := 0) Q0 (by omega) (by omega) (by omega)
      have hr1 := half_le R0 (by omega)
      have hq1 := half_le Q0 (by omega)
      have rb1 := whi_bd (V / 2 % y)
      have rb2 := wlo_bd (V / 2 % y)
      have qb1 := whi_bd (V / 2 / y)
      have qb2 := wlo_bd (V / 2 / y)
      have CAr := Lib.hid (CA.out (2 * (V / 2 % y) + V % 2) ⟨by omega, by omega⟩)
      have CPr := Lib.hid (CP.out (2 * (V / 2 % y) + V % 2) ⟨by omega, by omega⟩)
      have HST := Lib.hid hst
      have TW := Lib.hid tw
      have TQ := Lib.hid tq
      clear hst tw tq CA CP
      generalize V / 2 / y = Q at *
      generalize V / 2 % y = R at *
      have bb : 0 ≤ V % 2 ∧ V % 2 < 2 := ⟨by omega, by omega⟩
      obtain ⟨K1, K2, K3, K4, K5, K6, KW⟩ := HD.out
      obtain ⟨⟨x1, x2, x3⟩, ⟨x4, x5, x6⟩, x7⟩ := K1.three
      obtain ⟨⟨e1, e2, e3⟩, ⟨e4, e5, e6⟩, e7⟩ := K6.three
      clear K1 K2 K3 K4 K5 K6 KW
      generalize whi R = r1 at *
      generalize wlo R = r2 at *
      generalize V % 2 = b at *
      go_upto_region 5 with fail
      go_cut [] (fun wx => D6 w #[.int .u64 (whi x), .int .u64 (wlo x), .bool s] #[.int .u64 (whi y), .int .u64 (wlo y), .bool t] #[.int .u64 0, .int .u64 0, .bool false] #[.int .u64 0, .int .u64 0, .bool false] #[.int .u64 (whi Q), .int .u64 (wlo Q), .bool false] #[.int .u64 (bits .or .u64 (IntKind.u64.wrap (r1 * 2)) (r2 / 9223372036854775808)), .int .u64 (bits .or .u64 (IntKind.u64.wrap (r2 * 2)) b), .bool false] wx)
      case first =>
        clear HJ HJK CAr CPr HST TW TQ y0 y1 R0 R1 Q0 Q1 hr1 hq1 rb1 rb2 qb1 qb2 bb hx hx0 hx1 wk
        go_region_with ((go_at_call 82; (with_reducible refine (CBj.out _).mono ?_); rintro e w' ⟨rfl, hb⟩; (first | (have HD := Lib.hid (HD.out.below hb)) | (have HD := Lib.hid ((D6.drew HD.out).below hb))); clear hb; obtain ⟨⟨f1, f2, f3⟩, ⟨f4, f5, f6⟩, f7⟩ := HD.out.2.2.2.2.2.1.three))
        all_goals go_wp2_with fail
        all_goals go_meet
        all_goals exact D6.putR HD.out
      case rest =>
        have v1 : bits .or .u64 (IntKind.u64.wrap (r1 * 2)) (r2 / 9223372036854775808) = whi (2 * R + b) := by
          rw [show IntKind.u64.wrap (r1 * 2) = r1 * 2 by rw [IntKind.wrap_u64]; omega, or_low rb1.1 hr1 (by omega) (by omega)]
          exact TW.out.1.symm
        have v2 : bits .or .u64 (IntKind.u64.wrap (r2 * 2)) b = wlo (2 * R + b) := by
          rw [show IntKind.u64.wrap (r2 * 2) = r2 % 9223372036854775808 * 2 by rw [IntKind.wrap_u64]; omega, or_low (by omega) (by omega) bb.1 bb.2]
          exact TW.out.2.symm
        have tq := TQ.out
        rw [Int.add_zero, Int.add_zero] at tq
        have v3 : bits .or .u64 (IntKind.u64.wrap (whi Q * 2)) (wlo Q / 9223372036854775808) = whi (2 * Q) := by
          rw [show IntKind.u64.wrap (whi Q * 2) = whi Q * 2 by rw [IntKind.wrap_u64]; omega, or_low qb1.1 hq1 (by omega) (by omega)]
          exact tq.1.symm
        have v4 : IntKind.u64.wrap (wlo Q * 2) = wlo (2 * Q) := by
          rw [IntKind.wrap_u64, tq.2]; omega
        have v5 : bits .or .u64 (wlo (2 * Q)) 1 = wlo (2 * Q + 1) := by
          rw [tq.2, or_low (by omega) (by omega) (by omega) (by omega)]
          unfold wlo; omega
        have v6 : whi (2 * Q) = whi (2 * Q + 1) := by unfold whi; omega
        rw [v1, v2] at hcut
        clear HD
        have HD := Lib.hid hcut
        have W3 := Lib.hid v3
        have W4 := Lib.hid v4
        have W5 := Lib.hid v5
        have W6 := Lib.hid v6
        clear hcut v1 v2 v3 v4 v5 v6 tq x1 x2 x3 x4 x5 x6 x7 e1 e2 e3 e4 e5 e6 e7 CBj TW TQ rb1 rb2 qb1 qb2 hr1 hq1 Q0 Q1 r1 r2
        have v3 := W3.out
        have v4 := W4.out
        have v5 := W5.out
        generalize hn1 : whi (2 * Q) = n1 at *
        generalize hn2 : wlo (2 * Q) = n2 at *
        generalize hn3 : wlo (2 * Q + 1) = n3 at *
        generalize whi Q = q1 at *
        generalize wlo Q = q2 at *
        obtain ⟨K1, K2, K3, K4, K5, K6, KW⟩ := HD.out
        obtain ⟨⟨y1, y2, y3⟩, ⟨y4, y5, y6⟩, y7⟩ := K2.three
        obtain ⟨⟨f1, f2, f3⟩, ⟨f4, f5, f6⟩, f7⟩ := K5.three
        obtain ⟨⟨e1, e2, e3⟩, ⟨e4, e5, e6⟩, e7⟩ := K6.three
        clear K1 K2 K3 K4 K5 K6 KW
        generalize hm : 2 * R + b = M at *
        by_cases hlt : M < y
        · have dl : decide (M < y) = true := by simpa using hlt
          rw [dl] at CAr
          have E := Lib.hid (HST.out.1 hlt)
          clear HST hlt dl CPr
          go_wp2_with fail
          (with_reducible refine (CAr.out _).mono ?_)
          rintro e w7 ⟨rfl, hb⟩
          have HE := Lib.hid ((HD.out.putQ).below hb)
          clear hb HD y1 y2 y3 y4 y5 y6 y7 f1 f2 f3 f4 f5 f6 f7 e1 e2 e3 e4 e5 e6 e7
          go_wp2_with fail
          go_roundw
          case rel =>
            refine ⟨j, k - 1, by omega, by have := HJK.out; omega, rfl, ?_⟩
            rw [hV, E.out.1, E.out.2, hn1, hn2]
            exact HE.out
          case measure => have := HJK.out; simp [intOf]; omega
        · have dl : decide (M < y) = false := by simpa using hlt
          rw [dl] at CAr
          have E := Lib.hid (HST.out.2 hlt)
          have CPm := Lib.hid (CPr.out (by omega))
          clear HST hlt dl CPr
          go_wp2_with fail
          (with_reducible refine (CAr.out _).mono ?_)
          rintro e w7 ⟨rfl, hb⟩
          have HE := Lib.hid ((HD.out.putQ).below hb)
          clear hb HD y1 y2 y3 y4 y5 y6 y7 f1 f2 f3 f4 f5 f6 f7 e1 e2 e3 e4 e5 e6 e7
          obtain ⟨K1, K2, K3, K4, K5, K6, KW⟩ := HE.out
          obtain ⟨⟨y1, y2, y3⟩, ⟨y4, y5, y6⟩, y7⟩ := K2.three
          obtain ⟨⟨e1, e2, e3⟩, ⟨e4, e5, e6⟩, e7⟩ := K6.three
          clear K1 K2 K3 K4 K5 K6 KW
          go_wp2_with fail
          (with_reducible refine (CPm.out _).mono ?_)
          rintro e w8 ⟨rfl, hb⟩
          have HG := Lib.hid (HE.out.below hb)
          clear hb HE y1 y2 y3 y4 y5 y6 y7 e1 e2 e3 e4 e5 e6 e7
          obtain ⟨K1, K2, K3, K4, K5, K6, KW⟩ := HG.out
          obtain ⟨⟨f1, f2, f3⟩, ⟨f4, f5, f6⟩, f7⟩ := K5.three
          obtain ⟨⟨e1, e2, e3⟩, ⟨e4, e5, e6⟩, e7⟩ := K6.three
          clear K1 K2 K3 K4 K5 K6 KW
          go_wp2_with fail
          go_roundw
          case rel =>
            refine ⟨j, k - 1, by omega, by have := HJK.out; omega, rfl, ?_⟩
            rw [hV, E.out.1, E.out.2, hn3, ← W6.out]
            exact HG.out.putR.putQ1
          case measure => have := HJK.out; simp [intOf]; omega
end Go.Proofs.YtinnlahmlepeeaaDoor
