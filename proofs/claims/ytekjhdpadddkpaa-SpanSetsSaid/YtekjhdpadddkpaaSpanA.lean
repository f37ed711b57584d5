/- Contracts of the small functions of span and of its reference: ranges, checks, comparisons. -/
import Derived.Test.YtekjhdpadddkpaaProg
import Derived.Test.YtekjhdpadddkpaaKit
namespace Go.Proofs.Ytekjhdpadddkpaa
open Go.RowKit

/-- Slice value at A reads as the intervals xs, all of it below block B. -/
def RdI (w : World) (B : Nat) (A : Option Addr) (xs : List (Int × Int)) : Prop :=
  ∀ k, k < xs.length → ∃ b off x, A = some ⟨b, off, none⟩ ∧ b < B ∧ xs[k]? = some x ∧
    w.cell? ⟨b, off + k * 2, none⟩ = some (.int .i64 x.1) ∧ w.cell? ⟨b, off + k * 2 + 1, none⟩ = some (.int .i64 x.2)

theorem RdI.below {w w' : World} {B : Nat} {A : Option Addr} {xs : List (Int × Int)} (h : RdI w B A xs) (hb : Below B w w') : RdI w' B A xs := by
  intro k hk
  obtain ⟨b, off, x, hA, hB, hx, h1, h2⟩ := h k hk
  exact ⟨b, off, x, hA, hB, hx, (hb.cell (p := ⟨b, _, none⟩) hB).trans h1, (hb.cell (p := ⟨b, _, none⟩) hB).trans h2⟩
theorem RdI.more {w : World} {B B' : Nat} {A : Option Addr} {xs : List (Int × Int)} (h : RdI w B A xs) (hb : B ≤ B') : RdI w B' A xs := by
  intro k hk
  obtain ⟨b, off, x, hA, hB, hx, h1, h2⟩ := h k hk
  exact ⟨b, off, x, hA, Nat.lt_of_lt_of_le hB hb, hx, h1, h2⟩
theorem RdI.nil (w : World) (B : Nat) (A : Option Addr) : RdI w B A [] := fun _ h => absurd h (by simp)

def inR (x : Int × Int) : Bool := decide (-1000000000000 ≤ min x.1 x.2) && decide (max x.1 x.2 ≤ 1000000000000)
def leB (x : Int × Int) : Bool := decide (x.1 ≤ x.2)
theorem inR_iff (x : Int × Int) : inR x = true ↔ (-1000000000000 ≤ x.1 ∧ x.1 ≤ 1000000000000 ∧ -1000000000000 ≤ x.2 ∧ x.2 ≤ 1000000000000) := by
  simp [inR]; omega
theorem leB_iff (x : Int × Int) : leB x = true ↔ x.1 ≤ x.2 := by simp [leB]

theorem inRange_any (x : Int × Int) (w : World) : Calls Try.prog 51 #[.agg #[.int .i64 x.1, .int .i64 x.2]] w fun e w' =>
   e = .returned (.bool (inR x)) ∧ w.alloc (.cells #[.int .i64 x.1, .int .i64 x.2] 23) = w' := by
  go_enter Try.func51, Try.ntmps51
  go_wp2
  all_goals
    go_ret
    exact ⟨ret_bool (by rw [Bool.eq_iff_iff]; simp [inR]; omega), rfl⟩
theorem inRange_is (b : Bool) (x : Int × Int) (h : Hid (inR x = b)) (w : World) : Calls Try.prog 51 #[.agg #[.int .i64 x.1, .int .i64 x.2]] w fun e w' =>
   e = .returned (.bool b) ∧ w.alloc (.cells #[.int .i64 x.1, .int .i64 x.2] 23) = w' := h.out ▸ inRange_any x w

theorem outside_is (b : Bool) (x : Int × Int) (h : Hid (inR x = !b)) (w : World) : Calls Try.prog 52 #[.agg #[.int .i64 x.1, .int .i64 x.2]] w fun e w' =>
   e = .returned (.bool b) ∧ w.alloc (.cells #[.int .i64 x.1, .int .i64 x.2] 23) = w' := by
  have hb : Hid (b = !inR x) := Lib.hid (by rw [h.out]; simp)
  clear h
  go_enter Try.func52, Try.ntmps52
  go_wp2
  all_goals
    go_ret
    exact ⟨ret_bool (by rw [hb.out, Bool.eq_iff_iff]; simp [inR]; omega), rfl⟩

def errAll (xs : List (Int × Int)) : Int := if xs.all inR then (if xs.all leB then 0 else 1) else 6

def Upto (p : Int × Int → Bool) (xs : List (Int × Int)) (k : Nat) : Prop := ∀ j x, j < k → xs[j]? = some x → p x = true
theorem Upto.zero (p : Int × Int → Bool) (xs : List (Int × Int)) : Upto p xs 0 := fun _ _ h => absurd h (by omega)
theorem Upto.succ {p : Int × Int → Bool} {xs : List (Int × Int)} {k : Nat} {x : Int × Int} (h : Upto p xs k) (hx : Hid (xs[k]? = some x)) (hp : Hid (p x = true)) : Upto p xs (k + 1) := by
  intro j y hj hy
  by_cases e : j = k
  · subst e; rw [hx.out] at hy; cases hy; exact hp.out
  · exact h j y (by omega) hy
theorem Upto.all {p : Int × Int → Bool} {xs : List (Int × Int)} {k : Nat} (h : Upto p xs k) (hk : xs.length ≤ k) : xs.all p = true := by
  rw [List.all_eq_true]
  intro x hx
  obtain ⟨j, hj, rfl⟩ := List.getElem_of_mem hx
  exact h j _ (by omega) (List.getElem?_eq_getElem hj)
theorem not_all {p : Int × Int → Bool} {xs : List (Int × Int)} {k : Nat} {x : Int × Int} (hx : Hid (xs[k]? = some x)) (hp : Hid (p x = false)) : xs.all p = false := by
  rw [List.all_eq_false]
  exact ⟨x, List.mem_of_getElem? hx.out, by rw [hp.out]; decide⟩

set_option maxHeartbeats 400000 in
theorem checkAll_any (A : Option Addr) (n c : Nat) (xs : List (Int × Int)) (w : World) (hx : RdI w w.heap.size A xs) (hn : Hid (n = xs.length)) (hlen : xs.length ≤ maxLen) :
    Calls Try.prog 40 #[.slice A n c] w fun e w' => e = .returned (.int .i64 (errAll xs)) ∧ Below w.heap.size w w' := by
  obtain rfl := hn.out
  clear hn
  unfold maxLen at hlen
  go_enter Try.func40, Try.ntmps40
  go_wp2
  go_loopw [9] (fun i wr => ∃ k : Nat, k ≤ xs.length ∧ i = .int .i64 k ∧ Upto inR xs k ∧ Below w.heap.size w wr) (fun i _ => xs.length - (intOf i).toNat)
  case atStart => exact ⟨0, Nat.zero_le _, rfl, Upto.zero _ _, Below.refl _ _⟩
  case round =>
    obtain ⟨k, hk, rfl, hu, hb⟩ := hrel
    by_cases hlt : k < xs.length
    · obtain ⟨b, off, x, rfl, hB, hx', h1, h2⟩ := (hx.below hb) k hlt
      have HX := Lib.hid hx'
      clear hx'
      rcases hin : inR x with _ | _
      · have HI := Lib.hid hin
        clear hin
        go_wp2_with (go_at_call 51; refine (inRange_is false x HI _).mono ?_; rintro e w' ⟨rfl, rfl⟩)
        go_ret
        exact ⟨ret_int (by rw [errAll, not_all HX HI]; rfl), (hb.alloc hb.size _).alloc (by simp; have := hb.size; omega) _⟩
      · have HI := Lib.hid hin
        clear hin
        go_wp2_with (go_at_call 51; refine (inRange_is true x HI _).mono ?_; rintro e w' ⟨rfl, rfl⟩)
        go_roundw
        case rel => exact ⟨k + 1, by omega, by go_num, hu.succ HX HI, (hb.alloc hb.size _).alloc (by simp; have := hb.size; omega) _⟩
        case measure => simp [intOf]; omega
    · have H1 := Lib.hid (hu.all (by omega))
      clear hu
      go_wp2
      go_loopw [19] (fun i wr => ∃ k : Nat, k ≤ xs.length ∧ i = .int .i64 k ∧ Upto leB xs k ∧ Below w.heap.size w wr) (fun i _ => xs.length - (intOf i).toNat)
      case atStart => exact ⟨0, Nat.zero_le _, rfl, Upto.zero _ _, hb⟩
      case round =>
        clear hb hlt hk
        obtain ⟨k, hk, rfl, hu, hb⟩ := hrel
        by_cases hlt : k < xs.length
        · obtain ⟨b, off, x, rfl, hB, hx', h1, h2⟩ := (hx.below hb) k hlt
          have HX := Lib.hid hx'
          clear hx'
          by_cases hle : x.1 ≤ x.2
          · go_wp2
            go_roundw
            case rel => exact ⟨k + 1, by omega, by go_num, hu.succ HX (by simp [Hid, leB]; exact hle), (hb.alloc hb.size _)⟩
            case measure => simp [intOf]; omega
          · go_wp2
            go_ret
            exact ⟨ret_int (by rw [errAll, H1.out, not_all HX (by simp [Hid, leB]; omega)]; rfl), (hb.alloc hb.size _)⟩
        · have H2 := Lib.hid (hu.all (by omega))
          clear hu
          go_wp2
          go_ret
          exact ⟨ret_int (by rw [errAll, H1.out, H2.out]; rfl), hb⟩

set_option maxHeartbeats 400000 in
theorem rAll_any (A : Option Addr) (n c : Nat) (xs : List (Int × Int)) (w : World) (hx : RdI w w.heap.size A xs) (hn : Hid (n = xs.length)) (hlen : xs.length ≤ maxLen) :
    Calls Try.prog 41 #[.slice A n c] w fun e w' => e = .returned (.int .i64 (errAll xs)) ∧ Below w.heap.size w w' := by
  obtain rfl := hn.out
  clear hn
  unfold maxLen at hlen
  go_enter Try.func41, Try.ntmps41
  go_wp2
  go_loopw [3] (fun i wr => ∃ k : Nat, k ≤ xs.length ∧ i = .int .i64 k ∧ Upto inR xs k ∧ Below w.heap.size w wr) (fun i _ => xs.length - (intOf i).toNat)
  case atStart => exact ⟨0, Nat.zero_le _, rfl, Upto.zero _ _, Below.refl _ _⟩
  case round =>
    obtain ⟨k, hk, rfl, hu, hb⟩ := hrel
    by_cases hlt : k < xs.length
    · obtain ⟨b, off, x, rfl, hB, hx', h1, h2⟩ := (hx.below hb) k hlt
      have HX := Lib.hid hx'
      clear hx'
      rcases hin : inR x with _ | _
      · have HI : Hid (inR x = !true) := Lib.hid hin
        clear hin
        go_wp2_with (go_at_call 52; refine (outside_is true x HI _).mono ?_; rintro e w' ⟨rfl, rfl⟩)
        go_ret
        exact ⟨ret_int (by rw [errAll, not_all HX HI]; rfl), (hb.alloc hb.size _)⟩
      · have HI : Hid (inR x = !false) := Lib.hid hin
        clear hin
        go_wp2_with (go_at_call 52; refine (outside_is false x HI _).mono ?_; rintro e w' ⟨rfl, rfl⟩)
        go_roundw
        case rel => exact ⟨k + 1, by omega, by go_num, hu.succ HX HI, (hb.alloc hb.size _)⟩
        case measure => simp [intOf]; omega
    · have H1 := Lib.hid (hu.all (by omega))
      clear hu
      go_wp2
      go_loopw [4] (fun i wr => ∃ k : Nat, k ≤ xs.length ∧ i = .int .i64 k ∧ Upto leB xs k ∧ Below w.heap.size w wr) (fun i _ => xs.length - (intOf i).toNat)
      case atStart => exact ⟨0, Nat.zero_le _, rfl, Upto.zero _ _, hb⟩
      case round =>
        clear hb hlt hk
        obtain ⟨k, hk, rfl, hu, hb⟩ := hrel
        by_cases hlt : k < xs.length
        · obtain ⟨b, off, x, rfl, hB, hx', h1, h2⟩ := (hx.below hb) k hlt
          have HX := Lib.hid hx'
          clear hx'
          have hlt' : (k : Int) < (xs.length : Int) := by omega
          by_cases hle : x.1 ≤ x.2
          · go_wp2
            go_quiet (fail)
            go_wp2
            go_roundw
            case rel => exact ⟨k + 1, by omega, by go_num, hu.succ HX (by simp [Hid, leB]; exact hle), below_drewN hb _⟩
            case measure => simp [intOf]; omega
          · go_wp2
            go_quiet (fail)
            go_wp2
            go_ret
            exact ⟨ret_int (by rw [errAll, H1.out, not_all HX (by simp [Hid, leB]; omega)]; rfl), below_drewN hb _⟩
        · have H2 := Lib.hid (hu.all (by omega))
          clear hu
          go_wp2
          go_ret
          exact ⟨ret_int (by rw [errAll, H1.out, H2.out]; rfl), hb⟩
end Go.Proofs.Ytekjhdpadddkpaa
