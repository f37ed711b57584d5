/- Contracts of the small functions of vector: coordinates, products, differences, comparisons. -/
import Derived.Test.YtiehbakloldkcaaProg
import Derived.Test.YtiehbakloldkcaaKit
import Derived.Test.YtiehbakloldkcaaVecG
namespace Go.Proofs.Ytiehbakloldkcaa
open Go.RowKit

theorem b1 (w : World) (o : Obj) : Below w.heap.size w (w.alloc o) := (Below.refl _ _).alloc (Nat.le_refl _) _
theorem b2 (w : World) (o o' : Obj) : Below w.heap.size w ((w.alloc o).alloc o') := bnew (b1 w o) o'
theorem b3 (w : World) (o o' o2 : Obj) : Below w.heap.size w (((w.alloc o).alloc o').alloc o2) := bnew (b2 w o o') o2
theorem b4 (w : World) (o o' o2 o3 : Obj) : Below w.heap.size w ((((w.alloc o).alloc o').alloc o2).alloc o3) := bnew (b3 w o o' o2) o3
theorem b5 (w : World) (o o' o2 o3 o4 : Obj) : Below w.heap.size w (((((w.alloc o).alloc o').alloc o2).alloc o3).alloc o4) := bnew (b4 w o o' o2 o3) o4
/-- Behind a call that begins in a world with new blocks. -/
theorem bcall {w w1 w2 : World} (h : Below w.heap.size w w1) (hb : Below w1.heap.size w1 w2) : Below w.heap.size w w2 := h.trans (hb.mono h.size)
theorem wrap_in {n : Int} (h1 : -9000000000000000000 ≤ n) (h2 : n ≤ 9000000000000000000) : IntKind.i64.wrap n = n := by rw [IntKind.wrap_i64]; omega

theorem coordinates_any (v : V3) (w : World) : Calls Try.prog 37 #[.agg #[.int .i64 v.1, .int .i64 v.2.1, .int .i64 v.2.2]] w fun e w' =>
    e = .returned (.agg #[.int .i64 v.1, .int .i64 v.2.1, .int .i64 v.2.2]) ∧ Below w.heap.size w w' := by
  go_enter Try.func37, Try.ntmps37
  go_wp2
  refine bodyPost_ret (v := .agg #[.int .i64 v.1, .int .i64 v.2.1, .int .i64 v.2.2]) ?_ rfl ⟨rfl, b2 _ _ _⟩
  simp [results, Try.results37, go_sem]
theorem joined_any (v : V3) (w : World) : Calls Try.prog 46 #[.agg #[.int .i64 v.1, .int .i64 v.2.1, .int .i64 v.2.2]] w fun e w' =>
    e = .returned (.agg #[.int .i64 v.1, .int .i64 v.2.1, .int .i64 v.2.2]) ∧ Below w.heap.size w w' := by
  go_enter Try.func46, Try.ntmps46
  go_wp2
  refine bodyPost_ret (v := .agg #[.int .i64 v.1, .int .i64 v.2.1, .int .i64 v.2.2]) ?_ rfl ⟨rfl, b2 _ _ _⟩
  simp [results, Try.results46, go_sem]
theorem flat_any (p : P2) (w : World) : Calls Try.prog 49 #[.agg #[.int .i64 p.1, .int .i64 p.2]] w fun e w' =>
    e = .returned (.agg #[.int .i64 p.1, .int .i64 p.2, .int .i64 0]) ∧ Below w.heap.size w w' := by
  go_enter Try.func49, Try.ntmps49
  go_wp2
  refine bodyPost_ret (v := .agg #[.int .i64 p.1, .int .i64 p.2, .int .i64 0]) ?_ rfl ⟨rfl, b2 _ _ _⟩
  simp [results, Try.results49, go_sem]
theorem cmp64_any (x y : Int) (w : World) : Calls Try.prog 54 #[.int .i64 x, .int .i64 y] w fun e w' =>
    e = .returned (.int .i64 (sgn (x - y))) ∧ w = w' := by
  go_enter Try.func54, Try.ntmps54
  go_wp2
  all_goals
    go_ret
    exact ⟨ret_int (by unfold sgn; repeat' split <;> omega), rfl⟩

set_option maxHeartbeats 400000 in
theorem dot_any (p q : V3) (w : World) (h1 : -4000000000000 ≤ p.1 * q.1 ∧ p.1 * q.1 ≤ 4000000000000) (h2 : -4000000000000 ≤ p.2.1 * q.2.1 ∧ p.2.1 * q.2.1 ≤ 4000000000000) (h3 : -4000000000000 ≤ p.2.2 * q.2.2 ∧ p.2.2 * q.2.2 ≤ 4000000000000) :
    Calls Try.prog 43 #[.agg #[.int .i64 p.1, .int .i64 p.2.1, .int .i64 p.2.2], .agg #[.int .i64 q.1, .int .i64 q.2.1, .int .i64 q.2.2]] w fun e w' =>
    e = .returned (.int .i64 (dotV p q)) ∧ Below w.heap.size w w' := by
  go_enter Try.func43, Try.ntmps43
  go_wp2
  refine wp_loop_rounds 4 ?_
  rw [rounds_succ]
  go_wp2
  go_quiet (fail)
  go_wp2
  rw [rounds_succ]
  go_wp2
  go_quiet (fail)
  go_wp2
  rw [rounds_succ]
  go_wp2
  go_quiet (fail)
  go_wp2
  rw [rounds_succ]
  go_wp2
  go_ret
  exact ⟨ret_int rfl, below_drewN (b2 _ _ _) _⟩

def Ret3 (x y z : Int) (w : World) (e : Ending) (w' : World) : Prop := e = .returned (.agg #[.int .i64 x, .int .i64 y, .int .i64 z]) ∧ Below w.heap.size w w'
set_option maxHeartbeats 400000 in
theorem cross_any (p q : V3) (w : World) (h11 : -4000000000000 ≤ p.1 * q.2.1 ∧ p.1 * q.2.1 ≤ 4000000000000) (h12 : -4000000000000 ≤ p.1 * q.2.2 ∧ p.1 * q.2.2 ≤ 4000000000000)
    (h21 : -4000000000000 ≤ p.2.1 * q.1 ∧ p.2.1 * q.1 ≤ 4000000000000) (h22 : -4000000000000 ≤ p.2.1 * q.2.2 ∧ p.2.1 * q.2.2 ≤ 4000000000000)
    (h31 : -4000000000000 ≤ p.2.2 * q.1 ∧ p.2.2 * q.1 ≤ 4000000000000) (h32 : -4000000000000 ≤ p.2.2 * q.2.1 ∧ p.2.2 * q.2.1 ≤ 4000000000000) :
    Calls Try.prog 44 #[.agg #[.int .i64 p.1, .int .i64 p.2.1, .int .i64 p.2.2], .agg #[.int .i64 q.1, .int .i64 q.2.1, .int .i64 q.2.2]] w fun e w' =>
    e = .returned (.agg #[.int .i64 (crsV p q).1, .int .i64 (crsV p q).2.1, .int .i64 (crsV p q).2.2]) ∧ Below w.heap.size w w' := by
  have e1 : IntKind.i64.wrap (p.1 * q.2.1) = p.1 * q.2.1 := wrap_in (by omega) (by omega)
  have e2 : IntKind.i64.wrap (p.1 * q.2.2) = p.1 * q.2.2 := wrap_in (by omega) (by omega)
  have e3 : IntKind.i64.wrap (p.2.1 * q.1) = p.2.1 * q.1 := wrap_in (by omega) (by omega)
  have e4 : IntKind.i64.wrap (p.2.1 * q.2.2) = p.2.1 * q.2.2 := wrap_in (by omega) (by omega)
  have e5 : IntKind.i64.wrap (p.2.2 * q.1) = p.2.2 * q.1 := wrap_in (by omega) (by omega)
  have e6 : IntKind.i64.wrap (p.2.2 * q.2.1) = p.2.2 * q.2.1 := wrap_in (by omega) (by omega)
  have f1 : IntKind.i64.wrap (p.2.1 * q.2.2 - p.2.2 * q.2.1) = p.2.1 * q.2.2 - p.2.2 * q.2.1 := wrap_in (by omega) (by omega)
  have f2 : IntKind.i64.wrap (p.2.2 * q.1 - p.1 * q.2.2) = p.2.2 * q.1 - p.1 * q.2.2 := wrap_in (by omega) (by omega)
  have f3 : IntKind.i64.wrap (p.1 * q.2.1 - p.2.1 * q.1) = p.1 * q.2.1 - p.2.1 * q.1 := wrap_in (by omega) (by omega)
  clear h11 h12 h21 h22 h31 h32
  go_enter Try.func44, Try.ntmps44
  go_wp2
  refine wp_loop_rounds 4 ?_
  rw [rounds_succ]
  go_wp2
  go_region_held3 (fun w' => w'.cell? ⟨w.heap.size, 1, none⟩ = some (.int .i64 p.2.1) ∧ w'.cell? ⟨w.heap.size, 2, none⟩ = some (.int .i64 p.2.2) ∧ w'.cell? ⟨w.heap.size + 1, 1, none⟩ = some (.int .i64 q.2.1) ∧ w'.cell? ⟨w.heap.size + 1, 2, none⟩ = some (.int .i64 q.2.2)) (go_keep) (fail)
  go_wp2
  rw [rounds_succ]
  go_wp2
  go_region_held3 (fun w' => w'.cell? ⟨w.heap.size, 2, none⟩ = some (.int .i64 p.2.2) ∧ w'.cell? ⟨w.heap.size, 0, none⟩ = some (.int .i64 p.1) ∧ w'.cell? ⟨w.heap.size + 1, 2, none⟩ = some (.int .i64 q.2.2) ∧ w'.cell? ⟨w.heap.size + 1, 0, none⟩ = some (.int .i64 q.1)) (go_keep) (fail)
  go_wp2
  rw [rounds_succ]
  go_wp2
  go_region_held3 (fun w' => w'.cell? ⟨w.heap.size, 0, none⟩ = some (.int .i64 p.1) ∧ w'.cell? ⟨w.heap.size, 1, none⟩ = some (.int .i64 p.2.1) ∧ w'.cell? ⟨w.heap.size + 1, 0, none⟩ = some (.int .i64 q.1) ∧ w'.cell? ⟨w.heap.size + 1, 1, none⟩ = some (.int .i64 q.2.1)) (go_keep) (fail)
  go_wp2
  rw [rounds_succ]
  go_wp2
  refine bodyPost_ret (v := .agg #[.int .i64 (crsV p q).1, .int .i64 (crsV p q).2.1, .int .i64 (crsV p q).2.2]) ?_ rfl ⟨rfl, (b4 _ _ _ _ _).drew.drew.drew⟩
  simp [results, Try.results44, go_sem, crsV]

/-- The greatest common divisor of two numbers that are not negative. -/
theorem divisor_is (g : Nat) (n m : Int) (HG : Hid (Nat.gcd n.natAbs m.natAbs = g)) (w : World) (hn : 0 ≤ n) (hm : 0 ≤ m) (hn' : n ≤ 4000000) (hm' : m ≤ 4000000) : Calls Try.prog 45 #[.int .i64 n, .int .i64 m] w fun e w' =>
    e = .returned (.int .i64 (g : Int)) ∧ Below w.heap.size w w' := by
  go_enter Try.func45, Try.ntmps45
  go_wp2
  go_loopw [0, 1] (fun x y wr => ∃ a b : Int, 0 ≤ a ∧ a ≤ 4000000 ∧ 0 ≤ b ∧ b ≤ 4000000 ∧ x = .int .i64 a ∧ y = .int .i64 b ∧ Nat.gcd a.natAbs b.natAbs = g ∧ Below w.heap.size w wr) (fun _ y _ => (intOf y).toNat)
  case atStart => exact ⟨n, m, hn, hn', hm, hm', rfl, rfl, HG.out, Below.refl _ _⟩
  case round =>
    obtain ⟨a, b, ha, ha', hb, hb', rfl, rfl, hg, hB⟩ := hrel
    have HH := Lib.hid hg
    clear hg
    by_cases hz : b = 0
    · subst hz
      go_wp2
      go_ret
      exact ⟨ret_int (by rw [← HH.out]; simp; omega), hB⟩
    · have h0 : (b != 0) = true := by simpa using hz
      have h1 : 0 ≤ a % b := Int.emod_nonneg _ hz
      have h2 : a % b < b := Int.emod_lt_of_pos _ (by omega)
      have H3 : Hid (Nat.gcd b.natAbs (a % b).natAbs = Nat.gcd a.natAbs b.natAbs) := Lib.hid (by
        rw [Int.natAbs_emod_of_nonneg ha, Nat.gcd_comm, ← Nat.gcd_rec, Nat.gcd_comm])
      have h4 : 1 ≤ b := by omega
      go_wp2
      go_quiet (fail)
      go_wp2
      go_roundw
      case rel => exact ⟨b, a % b, by omega, by omega, h1, by omega, rfl, rfl, by rw [H3.out, HH.out], below_drewN hB _⟩
      case measure => simp [intOf]; omega
end Go.Proofs.Ytiehbakloldkcaa
