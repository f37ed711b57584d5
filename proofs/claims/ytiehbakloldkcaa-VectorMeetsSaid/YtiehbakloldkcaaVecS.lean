/- The reference's primitive vector, turn, and point on a segment. -/
import Derived.Test.YtiehbakloldkcaaVecQ
import Derived.Test.YtiehbakloldkcaaVecP
import Derived.Test.YtiehbakloldkcaaVecL
import Derived.Deep.DeepCutAuto
namespace Go.Proofs.Ytiehbakloldkcaa
open Go.RowKit
attribute [local go_sem ↓] Go.wp_at_zero Go.wp_at_succ
theorem rabs_any (n : Int) (w : World) (h1 : -1000000 ≤ n) (h2 : n ≤ 1000000) : Calls Try.prog 48 #[.int .i64 n] w fun e w' => e = .returned (.int .i64 (n.natAbs : Int)) ∧ w = w' := by
  go_enter Try.func48, Try.ntmps48
  go_wp2
  all_goals
    go_ret
    exact ⟨ret_int (by omega), rfl⟩
theorem rDivisor_is (g : Nat) (n m : Int) (HG : Hid (Nat.gcd n.natAbs m.natAbs = g)) (w : World) (hn : 0 ≤ n) (hm : 0 ≤ m) (hn' : n ≤ 4000000) (hm' : m ≤ 4000000) : Calls Try.prog 47 #[.int .i64 n, .int .i64 m] w fun e w' =>
    e = .returned (.int .i64 (g : Int)) ∧ Below w.heap.size w w' := by
  go_enter Try.func47, Try.ntmps47
  go_wp2
  go_loopw [0, 1] (fun x y wr => ∃ a b : Int, 0 ≤ a ∧ a ≤ 4000000 ∧ 0 ≤ b ∧ b ≤ 4000000 ∧ x = .int .i64 a ∧ y = .int .i64 b ∧ Nat.gcd a.natAbs b.natAbs = g ∧ Below w.heap.size w wr) (fun _ y _ => (intOf y).toNat)
  case atStart => exact ⟨n, m, hn, hn', hm, hm', rfl, rfl, HG.out, Below.refl _ _⟩
  case round =>
    obtain ⟨a, b, ha, ha', hb, hb', rfl, rfl, hg, hB⟩ := hrel
    have HH := Lib.hid hg
    clear hg
    by_cases hz : b = 0
    · subst hz
      go_wp2
      go_ret
      exact ⟨ret_int (by rw [← HH.out]; simp; omega), hB⟩
    · have h1 : 0 ≤ a % b := Int.emod_nonneg _ hz
      have h2 : a % b < b := Int.emod_lt_of_pos _ (by omega)
      have H3 : Hid (Nat.gcd b.natAbs (a % b).natAbs = Nat.gcd a.natAbs b.natAbs) := Lib.hid (by
        rw [Int.natAbs_emod_of_nonneg ha, Nat.gcd_comm, ← Nat.gcd_rec, Nat.gcd_comm])
      have h4 : 1 ≤ b := by omega
      have h0 : (b != 0) = true := by simpa using hz
      go_wp2
      go_quiet (fail)
      go_wp2
      go_roundw
      case rel => exact ⟨b, a % b, by omega, by omega, h1, by omega, rfl, rfl, by rw [H3.out, HH.out], below_drewN hB _⟩
      case measure => simp [intOf]; omega
theorem mk3n {w1 w' : World} {n : Nat} {v : V3} (h : Hid (At3 w1 n v)) (hb : Below (n + 1) w1 w') : w'.cell? ⟨n, 0, none⟩ = some (.int .i64 v.1) ∧ w'.cell? ⟨n, 1, none⟩ = some (.int .i64 v.2.1) ∧ w'.cell? ⟨n, 2, none⟩ = some (.int .i64 v.2.2) ∧ Below (n + 1) w1 w' :=
  ⟨(hb.cell (p := ⟨n, 0, none⟩) (Nat.lt_succ_self _)).trans h.out.1, (hb.cell (p := ⟨n, 1, none⟩) (Nat.lt_succ_self _)).trans h.out.2.1, (hb.cell (p := ⟨n, 2, none⟩) (Nat.lt_succ_self _)).trans h.out.2.2, hb⟩
theorem bcall3n {N : Nat} {w1 X w' : World} {a b c : Prop} (hz : N ≤ w1.heap.size) (h : a ∧ b ∧ c ∧ Below N w1 X) (hb : Below X.heap.size X w') : Below N w1 w' := h.2.2.2.trans (hb.mono (Nat.le_trans hz h.2.2.2.size))
set_option maxHeartbeats 1000000 in
theorem rPrimitive_any (v : V3) (hin : inV v = true) (hnz : v ≠ (0, 0, 0)) (w : World) : Calls Try.prog 28 #[.agg #[.int .i64 v.1, .int .i64 v.2.1, .int .i64 v.2.2]] w fun e w' =>
    e = .returned (.tuple #[.agg #[.int .i64 (prmV v).1, .int .i64 (prmV v).2.1, .int .i64 (prmV v).2.2], .int .i64 (gcdV v)]) ∧ Below w.heap.size w w' := by
  have GP := gcdV_pos hnz
  have GQ := gcdV_le hin hnz
  obtain ⟨⟨a1, a2⟩, ⟨a3, a4⟩, a5, a6⟩ := (inV_iff v).1 hin
  obtain ⟨g1, hg1⟩ : ∃ g, v.1.natAbs = g := ⟨_, rfl⟩
  obtain ⟨g2, hg2⟩ : ∃ g, Nat.gcd g1 v.2.1.natAbs = g := ⟨_, rfl⟩
  obtain ⟨g3, hg3⟩ : ∃ g, Nat.gcd g2 v.2.2.natAbs = g := ⟨_, rfl⟩
  have hl1 : g1 ≤ 1000000 := by omega
  have hl2 : g2 ≤ 1000000 := by rw [← hg2]; exact gcd_le_max _ _ _ hl1 (by omega)
  have hgv : gcdV v = (g3 : Int) := by rw [← hg3, ← hg2, ← hg1]; rfl
  have hgp : 1 ≤ (g3 : Int) := by rw [← hgv]; exact GP
  have hgq : (g3 : Int) ≤ 1000000 := by rw [← hgv]; exact GQ
  have HGV := Lib.hid hgv
  have HA1 : Hid (∀ w, Calls Try.prog 48 #[.int .i64 v.1] w fun e w' => e = .returned (.int .i64 (g1 : Int)) ∧ w = w') := Lib.hid fun w => by have h := rabs_any v.1 w a1 a2; rwa [hg1] at h
  have HA2 : Hid (∀ w, Calls Try.prog 48 #[.int .i64 v.2.1] w fun e w' => e = .returned (.int .i64 (v.2.1.natAbs : Int)) ∧ w = w') := Lib.hid fun w => rabs_any v.2.1 w a3 a4
  have HA3 : Hid (∀ w, Calls Try.prog 48 #[.int .i64 v.2.2] w fun e w' => e = .returned (.int .i64 (v.2.2.natAbs : Int)) ∧ w = w') := Lib.hid fun w => rabs_any v.2.2 w a5 a6
  have HD1 : Hid (∀ w, Calls Try.prog 47 #[.int .i64 (g1 : Int), .int .i64 (v.2.1.natAbs : Int)] w fun e w' => e = .returned (.int .i64 (g2 : Int)) ∧ Below w.heap.size w w') := Lib.hid fun w => rDivisor_is g2 g1 v.2.1.natAbs (Lib.hid (by rw [← hg2]; simp)) w (by omega) (by omega) (by omega) (by omega)
  have HD2 : Hid (∀ w, Calls Try.prog 47 #[.int .i64 (g2 : Int), .int .i64 (v.2.2.natAbs : Int)] w fun e w' => e = .returned (.int .i64 (g3 : Int)) ∧ Below w.heap.size w w') := Lib.hid fun w => rDivisor_is g3 g2 v.2.2.natAbs (Lib.hid (by rw [← hg3]; simp)) w (by omega) (by omega) (by omega) (by omega)
  clear hgv GP GQ hg1 hg2 hg3 hnz hin hl1 hl2
  have q1 : IntKind.i64.wrap (v.1.tdiv g3) = v.1.tdiv g3 := wrap_in (by have := tdiv_bd (x := v.1) hgp; omega) (by have := tdiv_bd (x := v.1) hgp; omega)
  have q2 : IntKind.i64.wrap (v.2.1.tdiv g3) = v.2.1.tdiv g3 := wrap_in (by have := tdiv_bd (x := v.2.1) hgp; omega) (by have := tdiv_bd (x := v.2.1) hgp; omega)
  have q3 : IntKind.i64.wrap (v.2.2.tdiv g3) = v.2.2.tdiv g3 := wrap_in (by have := tdiv_bd (x := v.2.2) hgp; omega) (by have := tdiv_bd (x := v.2.2) hgp; omega)
  have hgn : ¬ g3 = 0 := by omega
  have H := Lib.hid (At3.new w 23 v)
  have hz1 : w.heap.size + 1 ≤ (w.alloc (.cells #[.int .i64 v.1, .int .i64 v.2.1, .int .i64 v.2.2] 23)).heap.size := by simp
  have Z0 := Lib.hid (Zed.new2 w (.cells #[.int .i64 v.1, .int .i64 v.2.1, .int .i64 v.2.2] 23) 23)
  have hb0 := b1 w (.cells #[.int .i64 v.1, .int .i64 v.2.1, .int .i64 v.2.2] 23)
  have hb1 : Below (w.heap.size + 1) (w.alloc (.cells #[.int .i64 v.1, .int .i64 v.2.1, .int .i64 v.2.2] 23)) ((w.alloc (.cells #[.int .i64 v.1, .int .i64 v.2.1, .int .i64 v.2.2] 23)).alloc (.cells #[.int .i64 0, .int .i64 0, .int .i64 0] 23)) := by
    have h := b1 (w.alloc (.cells #[.int .i64 v.1, .int .i64 v.2.1, .int .i64 v.2.2] 23)) (.cells #[.int .i64 0, .int .i64 0, .int .i64 0] 23)
    rwa [sz1] at h
  go_enter Try.func28, Try.ntmps28
  go_upto_region 1 with fail
  generalize ((w.alloc (.cells #[.int .i64 v.1, .int .i64 v.2.1, .int .i64 v.2.2] 23)).alloc (.cells #[.int .i64 0, .int .i64 0, .int .i64 0] 23)) = w2 at *
  generalize (w.alloc (.cells #[.int .i64 v.1, .int .i64 v.2.1, .int .i64 v.2.2] 23)) = w1 at *
  have ZZ := Lib.hid Z0.out
  go_region_held3 (fun w' => w'.cell? ⟨w.heap.size, 0, none⟩ = some (.int .i64 v.1) ∧ w'.cell? ⟨w.heap.size, 1, none⟩ = some (.int .i64 v.2.1) ∧ w'.cell? ⟨w.heap.size, 2, none⟩ = some (.int .i64 v.2.2) ∧ Below (w.heap.size + 1) w1 w')
    ((refine mk3n H ?_; repeat' first | (with_reducible assumption) | (with_reducible refine Below.drew ?_) | (with_reducible refine setB ?_ ?_) | omega))
    ((first | (go_at_call 48; (first | (with_reducible refine (HA1.out _).mono ?_) | (with_reducible refine (HA2.out _).mono ?_) | (with_reducible refine (HA3.out _).mono ?_)); rintro e w' ⟨rfl, rfl⟩) | (go_at_call 47; (first | (with_reducible refine (HD1.out _).mono ?_) | (with_reducible refine (HD2.out _).mono ?_)); rintro e w' ⟨rfl, hb⟩; have hbb := bcall3n hz1 (by assumption) hb; (first | (have ZZ := Lib.hid (Zed.below ZZ.out hb)) | (have ZZ := Lib.hid (Zed.below (Zed.drew ZZ.out) hb))); clear hb)))
  all_goals
    rename_i hHl
    have hbx := hHl.2.2.2
    obtain ⟨⟨ra0, ra1, ra2⟩, ⟨ra3, ra4, ra5⟩, ra6⟩ := ZZ.out
    clear hHl
    go_wp2_with fail
    go_region_held3 (fun w' => w'.cell? ⟨w.heap.size, 0, none⟩ = some (.int .i64 v.1) ∧ w'.cell? ⟨w.heap.size, 1, none⟩ = some (.int .i64 v.2.1) ∧ w'.cell? ⟨w.heap.size, 2, none⟩ = some (.int .i64 v.2.2) ∧ Below (w.heap.size + 1) w1 w')
      ((refine mk3n H ?_; repeat' first | (with_reducible assumption) | (with_reducible refine Below.drew ?_) | (with_reducible refine setB ?_ ?_) | omega))
      (fail)
    rename_i hHl
    have hby := hHl.2.2.2
    clear hHl
    go_wp2_with fail
    refine bodyPost_ret (v := .tuple #[.agg #[.int .i64 (v.1.tdiv g3), .int .i64 (v.2.1.tdiv g3), .int .i64 (v.2.2.tdiv g3)], .int .i64 g3]) ?_ rfl ⟨by simp [prmV, HGV.out], ?_⟩
    · simp [results, Try.results28, go_sem, *]
    · exact hb0.trans (Below.mono hby (Nat.le_succ _))
theorem rTurn_any (a b c : P2) (ha : inP a = true) (hb : inP b = true) (hc : inP c = true) (w : World) : Calls Try.prog 32 #[.agg #[.int .i64 a.1, .int .i64 a.2], .agg #[.int .i64 b.1, .int .i64 b.2], .agg #[.int .i64 c.1, .int .i64 c.2]] w fun e w' => e = .returned (.int .i64 (trn a b c)) ∧ Below w.heap.size w w' := by
  have HS : Hid (trn a b c = sgn ((b.1 - a.1) * (c.2 - a.2) - (b.2 - a.2) * (c.1 - a.1))) := Lib.hid rfl
  simp only [inP, Bool.and_eq_true, inC_iff] at ha hb hc
  have p1 := bd22 (x := b.1 - a.1) (y := c.2 - a.2) (by omega) (by omega)
  have p2 := bd22 (x := b.2 - a.2) (y := c.1 - a.1) (by omega) (by omega)
  obtain ⟨⟨a1, a2⟩, a3, a4⟩ := ha
  obtain ⟨⟨c1, c2⟩, c3, c4⟩ := hb
  obtain ⟨⟨d1, d2⟩, d3, d4⟩ := hc
  obtain ⟨p3, p4⟩ := p1
  obtain ⟨p5, p6⟩ := p2
  go_enter Try.func32, Try.ntmps32
  go_wp2
  all_goals
    go_ret
    exact ⟨ret_int (by rw [HS.out]; unfold sgn; repeat' split <;> omega), b3 _ _ _ _⟩
end Go.Proofs.Ytiehbakloldkcaa
