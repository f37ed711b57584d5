/- Normalize, Count, Same; the examples of the chapter ('awake'). -/
import Derived.Test.YtekjhdpadddkpaaSpanK
namespace Go.Proofs.Ytekjhdpadddkpaa
open Go.RowKit

set_option maxHeartbeats 800000 in
theorem normalize_err (A : Option Addr) (n c : Nat) (xs : List (Int × Int)) (w : World) (hx : RdI w w.heap.size A xs) (hn : Hid (n = xs.length)) (he : err1 xs ≠ 0) :
    Calls Try.prog 30 #[.slice A n c] w fun e w' => e = .returned (.tuple #[.slice none 0 0, .int .i64 (err1 xs)]) ∧ Below w.heap.size w w' := by
  have hne : (err1 xs != 0) = true := by simpa using he
  have hne' : (err1 xs == 0) = false := by simpa using he
  clear he
  go_enter Try.func30, Try.ntmps30
  go_wp2_with fail
  refine (checkOne_any _ _ A n c xs _ ?_ ?_ hn).mono ?_
  · go_simp
  · exact (hx.below ((Below.refl _ _).alloc (Nat.le_refl _) _)).more (by simp)
  rintro e w1 ⟨rfl, hb1⟩
  go_wp2_with fail
  go_ret2
  exact ⟨rfl, ((Below.refl _ _).alloc (Nat.le_refl _) _).trans (hb1.mono (by simp))⟩

set_option maxHeartbeats 800000 in
theorem normalize_ok (A : Option Addr) (n c : Nat) (xs : List (Int × Int)) (w : World) (hx : RdI w w.heap.size A xs) (hn : Hid (n = xs.length)) (he : err1 xs = 0) :
    Calls Try.prog 30 #[.slice A n c] w fun e w' => ∃ v zs, e = .returned (.tuple #[v, .int .i64 0]) ∧ OwnI w' w.heap.size v zs ∧ NFof xs zs ∧ Below w.heap.size w w' := by
  have hval := err1_valid he
  have hlen := (err1_ok he).1
  have HE := Lib.hid he
  clear he
  go_enter Try.func30, Try.ntmps30
  go_wp2_with fail
  refine (checkOne_any _ _ A n c xs _ ?_ ?_ hn).mono ?_
  · go_simp
  · exact (hx.below ((Below.refl _ _).alloc (Nat.le_refl _) _)).more (by simp)
  rintro e w1 ⟨rfl, hb1⟩
  rw [HE.out]
  have hb1' : Below w.heap.size w w1 := ((Below.refl _ _).alloc (Nat.le_refl _) _).trans (hb1.mono (by simp))
  go_wp2_with fail
  refine (normal_any A n c xs _ ((hx.below hb1').more hb1'.size) hn hval (by omega)).mono ?_
  rintro e w2 ⟨v, zs, rfl, hv, hnf, hb2⟩
  go_wp2_with fail
  go_ret2
  exact ⟨v, zs, rfl, own_base hv hb1'.size, hnf, bthen hb1' hb2⟩

def cntN (zs : List (Int × Int)) : Int := (zs.map fun z => z.2 - z.1 + 1).sum
theorem cntN_snoc (zs : List (Int × Int)) (a : Int × Int) : cntN (zs ++ [a]) = cntN zs + (a.2 - a.1 + 1) := by simp [cntN]
theorem cntN_bd : ∀ (zs : List (Int × Int)) (a b : Int), NF zs → (∀ z ∈ zs, a ≤ z.1 ∧ z.2 ≤ b) → 0 ≤ cntN zs ∧ (cntN zs = 0 ∨ cntN zs ≤ b - a + 1)
  | [], _, _, _, _ => by simp [cntN]
  | z :: zs, a, b, h, hz => by
    have h0 := h.head
    have hzb := hz z (by simp)
    have ih := cntN_bd zs (z.2 + 2) b h.tail fun y hy => by
      have := (List.pairwise_cons.1 h.apart).1 y hy
      have := hz y (by simp [hy])
      omega
    simp only [cntN, List.map_cons, List.sum_cons] at *
    omega
theorem NF.take {zs : List (Int × Int)} (h : NF zs) (k : Nat) : NF (zs.take k) := ⟨fun x hx => h.valid x (List.mem_of_mem_take hx), h.apart.sublist (List.take_sublist k zs)⟩
theorem lenI_valid {x : Int × Int} (h : -1000000000000 ≤ x.1 ∧ x.1 ≤ x.2 ∧ x.2 ≤ 1000000000000) : lenI x = x.2 - x.1 + 1 := by
  have h1 : inR x = true := (inR_iff x).2 (by omega)
  have h2 : errAll [x] = 0 := by simp [errAll, h1, leB, h.2.1]
  simp [lenI, h2]

set_option maxHeartbeats 1600000 in
theorem count_ok (A : Option Addr) (n c : Nat) (xs : List (Int × Int)) (w : World) (hx : RdI w w.heap.size A xs) (hn : Hid (n = xs.length)) (he : err1 xs = 0) :
    Calls Try.prog 34 #[.slice A n c] w fun e w' => ∃ zs, e = .returned (.tuple #[.int .i64 (cntN zs), .int .i64 0]) ∧ NFof xs zs ∧ Below w.heap.size w w' := by
  have hval := err1_valid he
  have hlen := (err1_ok he).1
  have HE := Lib.hid he
  clear he
  go_enter Try.func34, Try.ntmps34
  go_wp2_with fail
  refine (checkOne_any _ _ A n c xs _ ?_ ?_ hn).mono ?_
  · go_simp
  · exact (hx.below ((Below.refl _ _).alloc (Nat.le_refl _) _)).more (by simp)
  rintro e w1 ⟨rfl, hb1⟩
  rw [HE.out]
  have hb1' : Below w.heap.size w w1 := ((Below.refl _ _).alloc (Nat.le_refl _) _).trans (hb1.mono (by simp))
  go_wp2_with fail
  refine (normal_any A n c xs _ ((hx.below hb1').more hb1'.size) hn hval (by omega)).mono ?_
  rintro e w2 ⟨v, zs, rfl, hv, hnf, hb2⟩
  obtain ⟨A2, c2, rfl, hr⟩ := hv.rd
  have hzv := hnf.bounds hval
  have hb2' := bthen hb1' hb2
  clear hb1
  have hz : zs.length ≤ 9223372036854775807 := by
    rcases hv.2 with ⟨_, h⟩ | ⟨g, cap, cur, _, _, _, h1, h2, _⟩
    · omega
    · simp only [maxLen] at h2; omega
  go_wp2
  go_loopw [5, 17] (fun s i wr => ∃ k : Nat, k ≤ zs.length ∧ i = .int .i64 k ∧ s = .int .i64 (cntN (zs.take k)) ∧ Below w2.heap.size w2 wr) (fun _ i _ => zs.length - (intOf i).toNat)
  case atStart => exact ⟨0, Nat.zero_le _, rfl, rfl, Below.refl _ _⟩
  case round =>
    obtain ⟨k, hk, rfl, rfl, hb⟩ := hrel
    by_cases hlt : k < zs.length
    · obtain ⟨b, off, x, rfl, hB, hx', h1, h2⟩ := (hr.below hb) k hlt
      have hxb := hzv x (List.mem_of_getElem? hx')
      have hs := cntN_bd (zs.take k) (-1000000000000) 1000000000000 (hnf.1.take k) (fun z hz => by have := hzv z (List.mem_of_mem_take hz); omega)
      have HS : Hid (cntN (zs.take (k + 1)) = cntN (zs.take k) + (x.2 - x.1 + 1)) := Lib.hid (by rw [take_snocI hx', cntN_snoc])
      have hc : ∀ w, Calls Try.prog 17 #[.agg #[.int .i64 x.1, .int .i64 x.2]] w fun e w' => e = .returned (.int .i64 (x.2 - x.1 + 1)) ∧ Below w.heap.size w w' := fun w => by
        have := sLength_any x w
        rwa [lenI_valid hxb] at this
      have HC := Lib.hid hc
      clear hx' hc
      generalize cntN (zs.take k) = S at hs HS ⊢
      have hs2 : -9223372036854775808 ≤ S + (x.2 - x.1 + 1) ∧ S + (x.2 - x.1 + 1) ≤ 9223372036854775807 := by omega
      go_wp2_with (go_at_call 17; refine (HC.out _).mono ?_; rintro e w3 ⟨rfl, hb3⟩)
      go_roundw
      case rel => exact ⟨k + 1, by omega, by go_num, by rw [HS.out], bthen (hb.alloc hb.size _) hb3⟩
      case measure => simp [intOf]; omega
    · have hk' : k = zs.length := by omega
      subst hk'
      have HT : Hid (cntN (zs.take zs.length) = cntN zs) := Lib.hid (by rw [List.take_length])
      go_wp2
      go_ret2
      exact ⟨zs, by rw [← HT.out]; rfl, hnf, bthen hb2' hb⟩

theorem neqIv (x y : Int × Int) (w : World) : (binOp .neq 23 (.agg #[.int .i64 x.1, .int .i64 x.2]) (.agg #[.int .i64 y.1, .int .i64 y.2])).run Try.prog w = .ok (.bool (!decide (x = y))) w := by
  have u3 := Try.underlying3
  have hS : Try.prog.underlying 23 = some (.struct (Try.prog.fieldsOf 23)) := by kernel_rfl
  have hp : Try.prog.stoodInHeld 23 = false := by kernel_rfl
  rw [run_neq_struct, show (10000 : Nat) = 9999 + 1 from rfl, run_equalIn_agg w 9999 23 _ _ hS hp]
  simp only [Program.fieldsOf, Try.underlying23]
  go_simp
  obtain ⟨x1, x2⟩ := x
  obtain ⟨y1, y2⟩ := y
  by_cases h1 : x1 = y1 <;> by_cases h2 : x2 = y2 <;> simp [h1, h2]

def EqUpto (xs ys : List (Int × Int)) (k : Nat) : Prop := ∀ j, j < k → xs[j]? = ys[j]?

set_option maxHeartbeats 1600000 in
theorem same_any (A : Option Addr) (n c : Nat) (xs : List (Int × Int)) (A' : Option Addr) (n' c' : Nat) (ys : List (Int × Int)) (w : World) (hx : RdI w w.heap.size A xs) (hn : Hid (n = xs.length)) (hy : RdI w w.heap.size A' ys) (hn' : Hid (n' = ys.length)) (hlen : xs.length ≤ maxLen) :
    Calls Try.prog 36 #[.slice A n c, .slice A' n' c'] w fun e w' => e = .returned (.bool (decide (xs = ys))) ∧ Below w.heap.size w w' := by
  obtain rfl := hn.out
  obtain rfl := hn'.out
  clear hn hn'
  unfold maxLen at hlen
  by_cases hl : xs.length = ys.length
  · have HL := Lib.hid hl
    rw [← hl]
    clear hl
    have hnn : ((xs.length : Int) != (xs.length : Int)) = false := by simp
    go_enter Try.func36, Try.ntmps36
    go_wp2
    go_loopw [5] (fun i wr => ∃ k : Nat, k ≤ xs.length ∧ i = .int .i64 k ∧ EqUpto xs ys k ∧ Below w.heap.size w wr) (fun i _ => xs.length - (intOf i).toNat)
    case atStart => exact ⟨0, Nat.zero_le _, rfl, fun j h => absurd h (by omega), Below.refl _ _⟩
    case round =>
      obtain ⟨k, hk, rfl, heq, hb⟩ := hrel
      by_cases hlt : k < xs.length
      · obtain ⟨b, off, x, rfl, hB, hx', h1, h2⟩ := (hx.below hb) k hlt
        obtain ⟨b', off', y, rfl, hB', hy', h1', h2'⟩ := (hy.below hb) k (by rw [← HL.out]; exact hlt)
        have HX := Lib.hid hx'
        have HY := Lib.hid hy'
        clear hx' hy'
        have hlt' : (k : Int) < (xs.length : Int) := by omega
        have he := fun w => neqIv x y w
        by_cases hxy : x = y
        · have HXY := Lib.hid hxy
          have hd : (!decide (x = y)) = false := by simp [hxy]
          rw [hd] at he
          clear hxy hd
          go_wp2
          go_quiet (fail)
          go_wp2
          go_roundw
          case rel =>
            refine ⟨k + 1, by omega, by go_num, fun j hj => ?_, below_drewN hb _⟩
            by_cases e : j = k
            · subst e; rw [HX.out, HY.out, HXY.out]
            · exact heq j (by omega)
          case measure => simp [intOf]; omega
        · have hd : (!decide (x = y)) = true := by simp [hxy]
          have HD : Hid (decide (xs = ys) = false) := Lib.hid (by
            have : xs ≠ ys := by
              rintro rfl
              have h := HX.out.symm.trans HY.out
              cases h
              exact hxy rfl
            simpa using this)
          rw [hd] at he
          clear hxy hd
          go_wp2
          go_quiet (fail)
          go_wp2
          go_ret
          exact ⟨ret_bool HD.out.symm, below_drewN hb _⟩
      · have HD : Hid (decide (xs = ys) = true) := Lib.hid (by
          have : xs = ys := by
            apply List.ext_getElem?
            intro j
            by_cases hj : j < k
            · exact heq j hj
            · have h1 := HL.out
              rw [List.getElem?_eq_none (by omega), List.getElem?_eq_none (by omega)]
          simpa using this)
        go_wp2
        go_ret
        exact ⟨ret_bool HD.out.symm, hb⟩
  · have hne : ((xs.length : Int) != (ys.length : Int)) = true := by simp; omega
    have hne' : ((xs.length : Int) == (ys.length : Int)) = false := by simp; omega
    have HD : Hid (decide (xs = ys) = false) := Lib.hid (by
      have : xs ≠ ys := by rintro rfl; exact hl rfl
      simpa using this)
    go_enter Try.func36, Try.ntmps36
    go_wp2
    go_ret
    exact ⟨ret_bool HD.out.symm, Below.refl _ _⟩
end Go.Proofs.Ytekjhdpadddkpaa
