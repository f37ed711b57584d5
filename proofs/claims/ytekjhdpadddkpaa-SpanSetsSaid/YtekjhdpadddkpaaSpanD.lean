/- Lists of intervals in memory; Clone, Concat, checkLists. -/
import Derived.Test.YtekjhdpadddkpaaSpanC
import Derived.Lib.SliceRun
namespace Go.Proofs.Ytekjhdpadddkpaa
open Go.RowKit

def cellsI (xs : List (Int × Int)) : List Value := xs.flatMap fun x => [.int .i64 x.1, .int .i64 x.2]
@[simp] theorem length_cellsI (xs : List (Int × Int)) : (cellsI xs).length = xs.length * 2 := by
  induction xs with
  | nil => rfl
  | cons x xs ih => simp only [cellsI, List.flatMap_cons, List.length_append, List.length_cons, List.length_nil] at *; omega
theorem cellsI_append (xs ys : List (Int × Int)) : cellsI (xs ++ ys) = cellsI xs ++ cellsI ys := by simp [cellsI]
theorem cellsI_one {xs : List (Int × Int)} : ∀ u ∈ cellsI xs, u.oneCell' = true := by
  intro u hu
  simp only [cellsI, List.mem_flatMap] at hu
  obtain ⟨x, _, h⟩ := hu
  simp at h
  rcases h with rfl | rfl <;> rfl
theorem cellsI_get {xs : List (Int × Int)} {k : Nat} {x : Int × Int} (h : xs[k]? = some x) : (cellsI xs)[k * 2]? = some (.int .i64 x.1) ∧ (cellsI xs)[k * 2 + 1]? = some (.int .i64 x.2) := by
  induction xs generalizing k with
  | nil => simp at h
  | cons y ys ih =>
    rcases k with _ | k
    · simp at h; subst h; simp [cellsI]
    · have h' : ys[k]? = some x := by simpa using h
      obtain ⟨a, b⟩ := ih h'
      have e1 : (k + 1) * 2 = k * 2 + 2 := by omega
      rw [e1]
      simp only [cellsI, List.flatMap_cons] at *
      exact ⟨by simpa using a, by simpa using b⟩
theorem cellsI_of {xs : List (Int × Int)} {j : Nat} {u : Value} (h : (cellsI xs)[j]? = some u) : ∃ k x, xs[k]? = some x ∧ ((j = k * 2 ∧ u = .int .i64 x.1) ∨ (j = k * 2 + 1 ∧ u = .int .i64 x.2)) := by
  have hj : j < xs.length * 2 := by
    have := (List.getElem?_eq_some_iff.1 h).1
    simpa using this
  have hk : j / 2 < xs.length := by omega
  have hx := List.getElem?_eq_getElem hk
  obtain ⟨a, b⟩ := cellsI_get hx
  refine ⟨_, _, hx, ?_⟩
  rcases Nat.mod_two_eq_zero_or_one j with h0 | h0
  · have e : j = j / 2 * 2 := by omega
    rw [← e] at a
    exact .inl ⟨e, by rw [h] at a; exact (Option.some.inj a)⟩
  · have e : j = j / 2 * 2 + 1 := by omega
    rw [← e] at b
    exact .inr ⟨e, by rw [h] at b; exact (Option.some.inj b)⟩

theorem RdI.cells {w : World} {B : Nat} {A : Option Addr} {xs : List (Int × Int)} (h : RdI w B A xs) : RdC w B A (cellsI xs) := by
  rcases xs with _ | ⟨x0, xs⟩
  · exact .inl rfl
  · obtain ⟨b, off, x, hA, hB, _, _, _⟩ := h 0 (by simp)
    refine .inr ⟨b, off, hA, hB, fun j u hu => ?_⟩
    obtain ⟨k, y, hy, hj⟩ := cellsI_of hu
    obtain ⟨b', off', x', hA', _, hx', h1, h2⟩ := h k (List.getElem?_eq_some_iff.1 hy).1
    rw [hA] at hA'
    cases hA'
    rw [hy] at hx'
    cases hx'
    rcases hj with ⟨rfl, rfl⟩ | ⟨rfl, rfl⟩
    · exact h1
    · rw [← Nat.add_assoc]; exact h2
theorem RdC.ivs {w : World} {B : Nat} {A : Option Addr} {xs : List (Int × Int)} (h : RdC w B A (cellsI xs)) : RdI w B A xs := by
  intro k hk
  have hx := List.getElem?_eq_getElem hk
  obtain ⟨c1, c2⟩ := cellsI_get hx
  rcases h with h | ⟨b, off, hA, hB, hc⟩
  · rw [h] at c1; simp at c1
  · exact ⟨b, off, _, hA, hB, hx, hc _ _ c1, by rw [Nat.add_assoc]; exact hc _ _ c2⟩

/-- The slice value v is the call's own row of the intervals xs. -/
def OwnI (w : World) (base : Nat) (v : Value) (xs : List (Int × Int)) : Prop := w.ownsRow base 23 2 v xs.length (cellsI xs)
theorem OwnI.rd {w : World} {base : Nat} {v : Value} {xs : List (Int × Int)} (h : OwnI w base v xs) : ∃ A c, v = .slice A xs.length c ∧ RdI w w.heap.size A xs := by
  obtain ⟨A, c, hv, hr⟩ := RdC.of_own h
  exact ⟨A, c, hv, hr.ivs⟩

theorem Try.infoIv : (Try.prog.info? 23).map (fun i => (i.zero, i.size, i.bytes)) = some (some (.agg #[.int .i64 0, .int .i64 0]), 2, 16) := by kernel_rfl

set_option maxHeartbeats 400000 in
theorem clone_any (A : Option Addr) (n c : Nat) (xs : List (Int × Int)) (w : World) (hx : RdI w w.heap.size A xs) (hn : Hid (n = xs.length)) (hlen : xs.length ≤ 1099511627776) :
    Calls Try.prog 53 #[.slice A n c] w fun e w' => ∃ v, e = .returned v ∧ OwnI w' w.heap.size v xs ∧ Below w.heap.size w w' := by
  obtain rfl := hn.out
  clear hn
  obtain ⟨i0, hi0, hz0, hz1, hz2⟩ := info_parts Try.infoIv
  have hnil := fun (w : World) (a : Option Addr) (n c n' c' : Nat) => Lib.run_eql_slice_nil (P := Try.prog) w 33 23 a n c n' c' Try.underlying33
  by_cases hA : A = none
  · subst hA
    have hn : xs.length = 0 := by
      rcases Nat.eq_zero_or_pos xs.length with h | h
      · exact h
      · obtain ⟨_, _, _, h, _⟩ := hx 0 h; cases h
    obtain rfl : xs = [] := List.eq_nil_of_length_eq_zero hn
    go_enter Try.func53, Try.ntmps53
    go_wp2
    go_ret
    exact ⟨_, rfl, World.ownsRow_nil _ _ _ _, Below.refl _ _⟩
  · have hs : A.isNone = false := by cases A <;> simp at hA ⊢
    have hb0 : RdC (w.alloc (.cells #[] 23)) (w.heap.size) A (cellsI xs) := hx.cells.below ((Below.refl _ _).alloc (Nat.le_refl _) _)
    go_enter Try.func53, Try.ntmps53
    go_wp2_with (at_builtin; refine wpList_append_rd _ rfl (.tmp 5) (.tmp 6) _ rfl w.heap.size 23 i0 _ 2 16 Try.underlying33 hi0 hz0 hz1 hz2 rfl (by omega) (.slice (some ⟨w.heap.size, 0, none⟩) 0 0) 0 [] rfl ?c1 w.heap.size A xs.length c (cellsI xs) rfl ?c2 ?c3 ?c4 ?c5 ?c6 ?c7 ?_)
    case c1 => exact World.ownsRow_made w #[] 0 (Nat.le_refl _) (Nat.zero_le _) (by simp)
    case c2 => simp
    case c3 => exact hb0
    case c4 => exact cellsI_one
    case c5 => simp only [maxLen]; omega
    case c6 => omega
    case c7 => simp
    intro v1 w1 hown hg hat
    go_wp2
    go_ret
    exact ⟨v1, rfl, by simpa [OwnI] using hown, ((Below.refl _ w).alloc (Nat.le_refl _) _).grown hg (by simp) (by intro k hk; simp [Value.ownBlock] at hk; omega)⟩
end Go.Proofs.Ytekjhdpadddkpaa
