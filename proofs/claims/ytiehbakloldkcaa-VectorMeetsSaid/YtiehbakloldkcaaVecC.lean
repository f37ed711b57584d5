/- Checks of vectors: checkAll over a list, Check, ranged. -/
import Derived.Test.YtiehbakloldkcaaVecA
namespace Go.Proofs.Ytiehbakloldkcaa
open Go.RowKit

/-- Slice value at A reads as the vectors xs, all of it below block B. -/
def RdV (w : World) (B : Nat) (A : Option Addr) (xs : List V3) : Prop :=
  ∀ k, k < xs.length → ∃ b off x, A = some ⟨b, off, none⟩ ∧ b < B ∧ xs[k]? = some x ∧
    w.cell? ⟨b, off + k * 3, none⟩ = some (.int .i64 x.1) ∧ w.cell? ⟨b, off + k * 3 + 1, none⟩ = some (.int .i64 x.2.1) ∧ w.cell? ⟨b, off + k * 3 + 2, none⟩ = some (.int .i64 x.2.2)
theorem RdV.below {w w' : World} {B : Nat} {A : Option Addr} {xs : List V3} (h : RdV w B A xs) (hb : Below B w w') : RdV w' B A xs := by
  intro k hk
  obtain ⟨b, off, x, hA, hB, hx, h1, h2, h3⟩ := h k hk
  exact ⟨b, off, x, hA, hB, hx, (hb.cell (p := ⟨b, _, none⟩) hB).trans h1, (hb.cell (p := ⟨b, _, none⟩) hB).trans h2, (hb.cell (p := ⟨b, _, none⟩) hB).trans h3⟩
theorem RdV.more {w : World} {B B' : Nat} {A : Option Addr} {xs : List V3} (h : RdV w B A xs) (hb : B ≤ B') : RdV w B' A xs := by
  intro k hk
  obtain ⟨b, off, x, hA, hB, hx, h1, h2, h3⟩ := h k hk
  exact ⟨b, off, x, hA, Nat.lt_of_lt_of_le hB hb, hx, h1, h2, h3⟩
theorem cell_new (w : World) (cs : Array Value) (t : TypeId) (k : Nat) (v : Value) (h : cs[k]? = some v) : (w.alloc (.cells cs t)).cell? ⟨w.heap.size, k, none⟩ = some v := by
  unfold World.cell? World.alloc
  simp [h]
theorem RdV.new1 (w : World) (m : Nat) (hm : w.heap.size = m) (t : TypeId) (x : V3) : RdV (w.alloc (.cells #[.int .i64 x.1, .int .i64 x.2.1, .int .i64 x.2.2] t)) (m + 1) (some ⟨m, 0, none⟩) [x] := by
  subst hm
  intro k hk
  have hk : k < 1 := hk
  match k, hk with
  | 0, _ => exact ⟨_, _, x, rfl, by omega, rfl, cell_new w _ t 0 _ rfl, cell_new w _ t 1 _ rfl, cell_new w _ t 2 _ rfl⟩
theorem RdV.new2 (w : World) (m : Nat) (hm : w.heap.size = m) (t : TypeId) (x y : V3) : RdV (w.alloc (.cells #[.int .i64 x.1, .int .i64 x.2.1, .int .i64 x.2.2, .int .i64 y.1, .int .i64 y.2.1, .int .i64 y.2.2] t)) (m + 1) (some ⟨m, 0, none⟩) [x, y] := by
  subst hm
  intro k hk
  have hk : k < 2 := hk
  match k, hk with
  | 0, _ => exact ⟨_, _, x, rfl, by omega, rfl, cell_new w _ t 0 _ rfl, cell_new w _ t 1 _ rfl, cell_new w _ t 2 _ rfl⟩
  | 1, _ => exact ⟨_, _, y, rfl, by omega, rfl, cell_new w _ t 3 _ rfl, cell_new w _ t 4 _ rfl, cell_new w _ t 5 _ rfl⟩
theorem RdV.new3 (w : World) (m : Nat) (hm : w.heap.size = m) (t : TypeId) (x y z : V3) : RdV (w.alloc (.cells #[.int .i64 x.1, .int .i64 x.2.1, .int .i64 x.2.2, .int .i64 y.1, .int .i64 y.2.1, .int .i64 y.2.2, .int .i64 z.1, .int .i64 z.2.1, .int .i64 z.2.2] t)) (m + 1) (some ⟨m, 0, none⟩) [x, y, z] := by
  subst hm
  intro k hk
  have hk : k < 3 := hk
  match k, hk with
  | 0, _ => exact ⟨_, _, x, rfl, by omega, rfl, cell_new w _ t 0 _ rfl, cell_new w _ t 1 _ rfl, cell_new w _ t 2 _ rfl⟩
  | 1, _ => exact ⟨_, _, y, rfl, by omega, rfl, cell_new w _ t 3 _ rfl, cell_new w _ t 4 _ rfl, cell_new w _ t 5 _ rfl⟩
  | 2, _ => exact ⟨_, _, z, rfl, by omega, rfl, cell_new w _ t 6 _ rfl, cell_new w _ t 7 _ rfl, cell_new w _ t 8 _ rfl⟩
theorem RdV.new4 (w : World) (m : Nat) (hm : w.heap.size = m) (t : TypeId) (x y z u : V3) : RdV (w.alloc (.cells #[.int .i64 x.1, .int .i64 x.2.1, .int .i64 x.2.2, .int .i64 y.1, .int .i64 y.2.1, .int .i64 y.2.2, .int .i64 z.1, .int .i64 z.2.1, .int .i64 z.2.2, .int .i64 u.1, .int .i64 u.2.1, .int .i64 u.2.2] t)) (m + 1) (some ⟨m, 0, none⟩) [x, y, z, u] := by
  subst hm
  intro k hk
  have hk : k < 4 := hk
  match k, hk with
  | 0, _ => exact ⟨_, _, x, rfl, by omega, rfl, cell_new w _ t 0 _ rfl, cell_new w _ t 1 _ rfl, cell_new w _ t 2 _ rfl⟩
  | 1, _ => exact ⟨_, _, y, rfl, by omega, rfl, cell_new w _ t 3 _ rfl, cell_new w _ t 4 _ rfl, cell_new w _ t 5 _ rfl⟩
  | 2, _ => exact ⟨_, _, z, rfl, by omega, rfl, cell_new w _ t 6 _ rfl, cell_new w _ t 7 _ rfl, cell_new w _ t 8 _ rfl⟩
  | 3, _ => exact ⟨_, _, u, rfl, by omega, rfl, cell_new w _ t 9 _ rfl, cell_new w _ t 10 _ rfl, cell_new w _ t 11 _ rfl⟩

def Upto (p : V3 → Bool) (xs : List V3) (k : Nat) : Prop := ∀ j x, j < k → xs[j]? = some x → p x = true
theorem Upto.zero (p : V3 → Bool) (xs : List V3) : Upto p xs 0 := fun _ _ h => absurd h (by omega)
theorem Upto.succ {p : V3 → Bool} {xs : List V3} {k : Nat} {x : V3} (h : Upto p xs k) (hx : Hid (xs[k]? = some x)) (hp : Hid (p x = true)) : Upto p xs (k + 1) := by
  intro j y hj hy
  by_cases e : j = k
  · subst e; rw [hx.out] at hy; cases hy; exact hp.out
  · exact h j y (by omega) hy
theorem Upto.all {p : V3 → Bool} {xs : List V3} {k : Nat} (h : Upto p xs k) (hk : xs.length ≤ k) : xs.all p = true := by
  rw [List.all_eq_true]
  intro x hx
  obtain ⟨j, hj, rfl⟩ := List.getElem_of_mem hx
  exact h j _ (by omega) (List.getElem?_eq_getElem hj)
theorem not_all {p : V3 → Bool} {xs : List V3} {k : Nat} {x : V3} (hx : Hid (xs[k]? = some x)) (hp : Hid (p x = false)) : xs.all p = false := by
  rw [List.all_eq_false]
  exact ⟨x, List.mem_of_getElem? hx.out, by rw [hp.out]; decide⟩
def errV (xs : List V3) : Int := if xs.all inV then 0 else 6
theorem inV_no {x : V3} (h : x.1 < -1000000 ∨ 1000000 < x.1 ∨ x.2.1 < -1000000 ∨ 1000000 < x.2.1 ∨ x.2.2 < -1000000 ∨ 1000000 < x.2.2) : Hid (inV x = false) := Lib.hid (by
  rcases e : inV x with _ | _
  · rfl
  · rw [inV_iff] at e; omega)

set_option maxHeartbeats 1000000 in
theorem checkAll_any (A : Option Addr) (n c : Nat) (xs : List V3) (w : World) (B : Nat) (hB0 : B ≤ w.heap.size) (hx : RdV w B A xs) (hn : Hid (n = xs.length)) (hlen : xs.length ≤ 100) :
    Calls Try.prog 36 #[.slice A n c] w fun e w' => e = .returned (.int .i64 (errV xs)) ∧ Below w.heap.size w w' := by
  obtain rfl := hn.out
  clear hn
  go_enter Try.func36, Try.ntmps36
  go_wp2
  go_loopw [9] (fun i wr => ∃ k : Nat, k ≤ xs.length ∧ i = .int .i64 k ∧ Upto inV xs k ∧ Below w.heap.size w wr) (fun i _ => xs.length - (intOf i).toNat)
  case atStart => exact ⟨0, Nat.zero_le _, rfl, Upto.zero _ _, Below.refl _ _⟩
  case round =>
    obtain ⟨k, hk, rfl, hu, hb⟩ := hrel
    by_cases hlt : k < xs.length
    · obtain ⟨b, off, x, rfl, hB, hx', h1, h2, h3⟩ := (hx.below (hb.mono hB0)) k hlt
      have HX := Lib.hid hx'
      clear hx'
      have hbB : b < wr.heap.size := by have := hb.size; omega
      have i0 : ∀ w, (Instr.index 36 (.agg #[.int .i64 x.1, .int .i64 x.2.1, .int .i64 x.2.2]) (.int .i64 0)).run Try.prog w = .ok (.int .i64 x.1) w := fun _ => by kernel_rfl
      have i1 : ∀ w, (Instr.index 36 (.agg #[.int .i64 x.1, .int .i64 x.2.1, .int .i64 x.2.2]) (.int .i64 1)).run Try.prog w = .ok (.int .i64 x.2.1) w := fun _ => by kernel_rfl
      have i2 : ∀ w, (Instr.index 36 (.agg #[.int .i64 x.1, .int .i64 x.2.1, .int .i64 x.2.2]) (.int .i64 2)).run Try.prog w = .ok (.int .i64 x.2.2) w := fun _ => by kernel_rfl
      by_cases a : x.1 < -1000000
      · have HI := inV_no (x := x) (.inl a)
        go_wp2_with (go_at_call 37; (with_reducible refine (coordinates_any x _).mono ?_); rintro e w' ⟨rfl, hb1⟩)
        refine wp_loop_rounds 4 ?_
        rw [rounds_succ]
        go_wp2
        go_ret
        exact ⟨ret_int (by rw [errV, not_all HX HI]; rfl), bcall (bnew hb _) hb1⟩
      have m0 : -1000000 ≤ x.1 := by omega
      clear a
      by_cases a : 1000000 < x.1
      · have HI := inV_no (x := x) (.inr (.inl a))
        go_wp2_with (go_at_call 37; (with_reducible refine (coordinates_any x _).mono ?_); rintro e w' ⟨rfl, hb1⟩)
        refine wp_loop_rounds 4 ?_
        rw [rounds_succ]
        go_wp2
        go_ret
        exact ⟨ret_int (by rw [errV, not_all HX HI]; rfl), bcall (bnew hb _) hb1⟩
      have m1 : x.1 ≤ 1000000 := by omega
      clear a
      by_cases a : x.2.1 < -1000000
      · have HI := inV_no (x := x) (.inr (.inr (.inl a)))
        go_wp2_with (go_at_call 37; (with_reducible refine (coordinates_any x _).mono ?_); rintro e w' ⟨rfl, hb1⟩)
        refine wp_loop_rounds 4 ?_
        rw [rounds_succ]
        go_wp2
        rw [rounds_succ]
        go_wp2
        go_ret
        exact ⟨ret_int (by rw [errV, not_all HX HI]; rfl), bcall (bnew hb _) hb1⟩
      have m2 : -1000000 ≤ x.2.1 := by omega
      clear a
      by_cases a : 1000000 < x.2.1
      · have HI := inV_no (x := x) (.inr (.inr (.inr (.inl a))))
        go_wp2_with (go_at_call 37; (with_reducible refine (coordinates_any x _).mono ?_); rintro e w' ⟨rfl, hb1⟩)
        refine wp_loop_rounds 4 ?_
        rw [rounds_succ]
        go_wp2
        rw [rounds_succ]
        go_wp2
        go_ret
        exact ⟨ret_int (by rw [errV, not_all HX HI]; rfl), bcall (bnew hb _) hb1⟩
      have m3 : x.2.1 ≤ 1000000 := by omega
      clear a
      by_cases a : x.2.2 < -1000000
      · have HI := inV_no (x := x) (.inr (.inr (.inr (.inr (.inl a)))))
        go_wp2_with (go_at_call 37; (with_reducible refine (coordinates_any x _).mono ?_); rintro e w' ⟨rfl, hb1⟩)
        refine wp_loop_rounds 4 ?_
        rw [rounds_succ]
        go_wp2
        rw [rounds_succ]
        go_wp2
        rw [rounds_succ]
        go_wp2
        go_ret
        exact ⟨ret_int (by rw [errV, not_all HX HI]; rfl), bcall (bnew hb _) hb1⟩
      have m4 : -1000000 ≤ x.2.2 := by omega
      clear a
      by_cases a : 1000000 < x.2.2
      · have HI := inV_no (x := x) (.inr (.inr (.inr (.inr (.inr a)))))
        go_wp2_with (go_at_call 37; (with_reducible refine (coordinates_any x _).mono ?_); rintro e w' ⟨rfl, hb1⟩)
        refine wp_loop_rounds 4 ?_
        rw [rounds_succ]
        go_wp2
        rw [rounds_succ]
        go_wp2
        rw [rounds_succ]
        go_wp2
        go_ret
        exact ⟨ret_int (by rw [errV, not_all HX HI]; rfl), bcall (bnew hb _) hb1⟩
      have m5 : x.2.2 ≤ 1000000 := by omega
      clear a
      have HI : Hid (inV x = true) := Lib.hid ((inV_iff x).2 ⟨⟨m0, m1⟩, ⟨m2, m3⟩, ⟨m4, m5⟩⟩)
      go_wp2_with (go_at_call 37; (with_reducible refine (coordinates_any x _).mono ?_); rintro e w' ⟨rfl, hb1⟩)
      refine wp_loop_rounds 4 ?_
      rw [rounds_succ]
      go_wp2
      rw [rounds_succ]
      go_wp2
      rw [rounds_succ]
      go_wp2
      rw [rounds_succ]
      go_wp2
      go_roundw
      case rel => exact ⟨k + 1, by omega, by go_num, hu.succ HX HI, bcall (bnew hb _) hb1⟩
      case measure => simp [intOf]; omega
    · have H1 := Lib.hid (hu.all (by omega))
      clear hu
      go_wp2
      go_ret
      exact ⟨ret_int (by rw [errV, H1.out]; rfl), hb⟩

theorem vCheck_any (x : V3) (w : World) : Calls Try.prog 15 #[.agg #[.int .i64 x.1, .int .i64 x.2.1, .int .i64 x.2.2]] w fun e w' => e = .returned (.int .i64 (errV [x])) ∧ Below w.heap.size w w' := by
  go_enter Try.func15, Try.ntmps15
  go_wp2_with fail
  refine (checkAll_any _ _ _ [x] _ (w.heap.size + 1 + 1) ?_ ?_ (Lib.hid rfl) (by simp)).mono ?_
  · simp
  · exact RdV.new1 _ _ (by simp) _ x
  rintro e w' ⟨rfl, hb⟩
  go_wp2_with fail
  go_ret
  exact ⟨rfl, bcall (b2 _ _ _) hb⟩
end Go.Proofs.Ytiehbakloldkcaa
