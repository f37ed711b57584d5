/- Sum, Add, Sub, Intersect, Hull, of span and of its reference; Normalize, Count. -/
import Derived.Test.YtekjhdpadddkpaaSpanH
namespace Go.Proofs.Ytekjhdpadddkpaa
open Go.RowKit

def loN (xs : List (Int × Int)) : Int := (xs.map (·.1)).sum
def hiN (xs : List (Int × Int)) : Int := (xs.map (·.2)).sum
theorem sums_snoc (xs : List (Int × Int)) (a : Int × Int) : loN (xs ++ [a]) = loN xs + a.1 ∧ hiN (xs ++ [a]) = hiN xs + a.2 := by simp [loN, hiN]
theorem take_snocI {xs : List (Int × Int)} {k : Nat} {x : Int × Int} (h : xs[k]? = some x) : xs.take (k + 1) = xs.take k ++ [x] := by
  rw [List.take_add_one, h]; rfl
theorem sums_bd (xs : List (Int × Int)) (h : ∀ x ∈ xs, inR x = true) : -(1000000000000 * (xs.length : Int)) ≤ loN xs ∧ loN xs ≤ 1000000000000 * (xs.length : Int) ∧ -(1000000000000 * (xs.length : Int)) ≤ hiN xs ∧ hiN xs ≤ 1000000000000 * (xs.length : Int) := by
  induction xs with
  | nil => simp [loN, hiN]
  | cons a xs ih =>
    have ih := ih fun x hx => h x (by simp [hx])
    have ha := (inR_iff a).1 (h a (by simp))
    simp only [loN, hiN, List.map_cons, List.sum_cons, List.length_cons] at *
    omega

def err1 (xs : List (Int × Int)) : Int := if 10000 < xs.length then 7 else errAll xs
theorem err1_lists (A : Option Addr) (c : Nat) (xs : List (Int × Int)) : errLists [(A, c, xs)] = err1 xs := by
  simp [errLists, err1, longB]
theorem err1_two (xs : List (Int × Int)) : err2 xs [] = err1 xs := by simp [err2, err1]
theorem err1_ok {xs : List (Int × Int)} (h : err1 xs = 0) : xs.length ≤ 10000 ∧ (∀ x ∈ xs, inR x = true) ∧ ∀ x ∈ xs, x.1 ≤ x.2 := by
  unfold err1 at h
  by_cases h1 : 10000 < xs.length
  · rw [if_pos h1] at h; omega
  · rw [if_neg h1] at h
    unfold errAll at h
    by_cases h2 : xs.all inR = true
    · rw [if_pos h2] at h
      by_cases h3 : xs.all leB = true
      · exact ⟨by omega, fun x hx => List.all_eq_true.1 h2 x hx, fun x hx => (leB_iff x).1 (List.all_eq_true.1 h3 x hx)⟩
      · rw [if_neg h3] at h; omega
    · rw [if_neg h2] at h; omega
theorem err1_valid {xs : List (Int × Int)} (h : err1 xs = 0) : ValidI xs := fun x hx => by
  obtain ⟨_, h1, h2⟩ := err1_ok h
  have := (inR_iff x).1 (h1 x hx)
  have := h2 x hx
  omega

/-- What Sum gives. -/
def sumR (xs : List (Int × Int)) : (Int × Int) × Int := if err1 xs = 0 then rngd (loN xs, hiN xs) else ((0, 0), err1 xs)

theorem RdL.one {w : World} {g : Nat} {A : Option Addr} {c : Nat} {xs : List (Int × Int)} (h : w.cell? ⟨g, 0, none⟩ = some (.slice A xs.length c)) (hx : RdI w w.heap.size A xs) : RdL w w.heap.size g [(A, c, xs)] := by
  intro i p hp
  match i, hp with
  | 0, hp => simp at hp; subst hp; exact ⟨h, hx⟩
  | i + 1, hp => simp at hp

/-- checkLists of one list, that lies in a new block of one cell. -/
theorem checkOne_any (g c : Nat) (A : Option Addr) (n c' : Nat) (xs : List (Int × Int)) (w : World) (hc : w.cell? ⟨g, 0, none⟩ = some (.slice A n c')) (hx : RdI w w.heap.size A xs) (hn : Hid (n = xs.length)) :
    Calls Try.prog 45 #[.slice (some ⟨g, 0, none⟩) 1 c] w fun e w' => e = .returned (.int .i64 (err1 xs)) ∧ Below w.heap.size w w' := by
  obtain rfl := hn.out
  have := checkLists_any g c [(A, c', xs)] w (lt_of_cell hc) (RdL.one hc hx) (by simp)
  rw [err1_lists] at this
  exact this

set_option maxHeartbeats 1600000 in
theorem sSum_any (A : Option Addr) (n c : Nat) (xs : List (Int × Int)) (w : World) (hx : RdI w w.heap.size A xs) (hn : Hid (n = xs.length)) :
    Calls Try.prog 27 #[.slice A n c] w fun e w' => e = .returned (.tuple #[.agg #[.int .i64 (sumR xs).1.1, .int .i64 (sumR xs).1.2], .int .i64 (sumR xs).2]) ∧ Below w.heap.size w w' := by
  obtain rfl := hn.out
  clear hn
  by_cases he : err1 xs = 0
  · obtain ⟨hlen, hin, hle⟩ := err1_ok he
    have HR : Hid (sumR xs = rngd (loN xs, hiN xs)) := Lib.hid (by simp [sumR, he])
    have HE := Lib.hid he
    clear he
    go_enter Try.func27, Try.ntmps27
    go_wp2_with fail
    refine (checkOne_any _ _ A xs.length c xs _ ?_ ?_ ?_).mono ?_
    · go_simp
    · exact (hx.below (((Below.refl _ _).alloc (Nat.le_refl _) _).alloc (by simp) _)).more (by simp; omega)
    · exact Lib.hid rfl
    rintro e w1 ⟨rfl, hb1⟩
    have hb1' : Below w.heap.size w w1 := (((Below.refl _ _).alloc (Nat.le_refl _) _).alloc (by simp) _).trans (hb1.mono (by simp; omega))
    have k1 := keepc (p := ⟨w.heap.size, 0, none⟩) (v := .int .i64 0) (by go_simp) hb1
    have k2 := keepc (p := ⟨w.heap.size, 1, none⟩) (v := .int .i64 0) (by go_simp) hb1
    have k3 := keepf (p := ⟨w.heap.size, 0, none⟩) (v := .int .i64 0) (by go_simp) (by go_simp) hb1
    have k4 := keepf (p := ⟨w.heap.size, 1, none⟩) (v := .int .i64 0) (by go_simp) (by go_simp) hb1
    have hz1 : w.heap.size + 1 < w1.heap.size := by have := hb1.size; simp at this; omega
    clear hb1
    rw [HE.out]
    go_wp2
    go_loopw [17] (fun i wr => ∃ k : Nat, k ≤ xs.length ∧ i = .int .i64 k ∧ wr.cell? ⟨w1.heap.size, 0, none⟩ = some (.int .i64 (loN (xs.take k))) ∧ wr.cell? ⟨w1.heap.size, 1, none⟩ = some (.int .i64 (hiN (xs.take k))) ∧
      wr.frozen? ⟨w1.heap.size, 0, none⟩ = false ∧ wr.frozen? ⟨w1.heap.size, 1, none⟩ = false ∧ w1.heap.size < wr.heap.size ∧ Below w1.heap.size w1 wr) (fun i _ => xs.length - (intOf i).toNat)
    case atStart => exact ⟨0, Nat.zero_le _, rfl, by go_simp; rfl, by go_simp; rfl, by go_simp, by go_simp, by go_simp, (Below.refl _ _).alloc (Nat.le_refl _) _⟩
    case round =>
      obtain ⟨k, hk, rfl, s1, s2, s3, s4, hzr, hb⟩ := hrel
      by_cases hlt : k < xs.length
      · obtain ⟨b, off, x, rfl, hB, hx', h1, h2⟩ := ((hx.below hb1').more hb1'.size |>.below hb) k hlt
        have hxb := (inR_iff x).1 (hin x (List.mem_of_getElem? hx'))
        have hsb := sums_bd (xs.take k) (fun y hy => hin y (List.mem_of_mem_take hy))
        have HS := Lib.hid (sums_snoc (xs.take k) x)
        have HT := Lib.hid (take_snocI hx')
        rw [List.length_take, Nat.min_eq_left hk] at hsb
        clear hx'
        generalize loN (xs.take k) = lo at s1 hsb HS
        generalize hiN (xs.take k) = hi at s2 hsb HS
        go_wp2
        go_roundw
        case rel =>
          exact ⟨k + 1, by omega, by go_num, by rw [HT.out, HS.out.1]; go_simp, by rw [HT.out, HS.out.2]; go_simp, by go_simp, by go_simp, by simp; omega,
            (((hb.setCell (Nat.le_refl _) _).setCell (Nat.le_refl _) _).alloc (by simp; omega) _)⟩
        case measure => simp [intOf]; omega
      · have hk' : k = xs.length := by omega
        subst hk'
        rw [List.take_length] at s1 s2
        have hc := fun w => ranged_any (loN xs, hiN xs) w
        have HC := Lib.hid hc
        clear hc
        have r1 := keepc k1 hb
        have r2 := keepc k2 hb
        have r3 := keepf k1 k3 hb
        have r4 := keepf k2 k4 hb
        go_wp2_with fail
        refine (HC.out _).mono ?_
        rintro e w2 ⟨rfl, hb2⟩
        rw [← HR.out]
        have q1 := keepc r1 hb2
        have q2 := keepc r2 hb2
        have q3 := keepf r1 r3 hb2
        have q4 := keepf r2 r4 hb2
        have hz2 := hb2.size
        clear r1 r2 r3 r4 k1 k2 k3 k4 s1 s2 s3 s4
        go_wp2_with fail
        refine bodyPost_ret (v := .tuple #[.agg #[.int .i64 (sumR xs).1.1, .int .i64 (sumR xs).1.2], .int .i64 (sumR xs).2]) ?_ rfl ⟨rfl, ?_⟩
        · simp [results, Try.results27, go_sem, q1, q2]
        · exact ((hb1'.trans (hb.mono hb1'.size)).trans (hb2.mono (by omega))).setCell (Nat.le_refl _) _ |>.setCell (Nat.le_refl _) _
  · have HR : Hid (sumR xs = ((0, 0), err1 xs)) := Lib.hid (by simp [sumR, he])
    have hne : (err1 xs != 0) = true := by simpa using he
    have hne' : (err1 xs == 0) = false := by simpa using he
    clear he
    go_enter Try.func27, Try.ntmps27
    go_wp2_with fail
    refine (checkOne_any _ _ A xs.length c xs _ ?_ ?_ ?_).mono ?_
    · go_simp
    · exact (hx.below (((Below.refl _ _).alloc (Nat.le_refl _) _).alloc (by simp) _)).more (by simp; omega)
    · exact Lib.hid rfl
    rintro e w1 ⟨rfl, hb1⟩
    have hb1' : Below w.heap.size w w1 := (((Below.refl _ _).alloc (Nat.le_refl _) _).alloc (by simp) _).trans (hb1.mono (by simp; omega))
    have k1 := keepc (p := ⟨w.heap.size, 0, none⟩) (v := .int .i64 0) (by go_simp) hb1
    have k2 := keepc (p := ⟨w.heap.size, 1, none⟩) (v := .int .i64 0) (by go_simp) hb1
    have k3 := keepf (p := ⟨w.heap.size, 0, none⟩) (v := .int .i64 0) (by go_simp) (by go_simp) hb1
    have k4 := keepf (p := ⟨w.heap.size, 1, none⟩) (v := .int .i64 0) (by go_simp) (by go_simp) hb1
    have hz1 : w.heap.size + 1 < w1.heap.size := by have := hb1.size; simp at this; omega
    clear hb1
    go_wp2_with fail
    refine bodyPost_ret (v := .tuple #[.agg #[.int .i64 0, .int .i64 0], .int .i64 (err1 xs)]) ?_ rfl ⟨by rw [HR.out], ?_⟩
    · simp [results, Try.results27, go_sem, k1, k2]
    · exact (hb1'.setCell (Nat.le_refl _) _).setCell (Nat.le_refl _) _
theorem rListsN_any (A : Option Addr) (n c : Nat) (xs : List (Int × Int)) (w : World) (hx : RdI w w.heap.size A xs) (hn : Hid (n = xs.length)) :
    Calls Try.prog 29 #[.slice A n c, .slice none 0 0] w fun e w' => e = .returned (.int .i64 (err1 xs)) ∧ Below w.heap.size w w' := by
  have := rLists_any A n c xs none 0 0 [] w hx hn (RdI.nil _ _ _) (Lib.hid rfl)
  rw [err1_two] at this
  exact this

set_option maxHeartbeats 1600000 in
theorem rSum_any (A : Option Addr) (n c : Nat) (xs : List (Int × Int)) (w : World) (hx : RdI w w.heap.size A xs) (hn : Hid (n = xs.length)) :
    Calls Try.prog 28 #[.slice A n c] w fun e w' => e = .returned (.tuple #[.agg #[.int .i64 (sumR xs).1.1, .int .i64 (sumR xs).1.2], .int .i64 (sumR xs).2]) ∧ Below w.heap.size w w' := by
  obtain rfl := hn.out
  clear hn
  by_cases he : err1 xs = 0
  · obtain ⟨hlen, hin, hle⟩ := err1_ok he
    have HR : Hid (sumR xs = rngd (loN xs, hiN xs)) := Lib.hid (by simp [sumR, he])
    have HE := Lib.hid he
    clear he
    go_enter Try.func28, Try.ntmps28
    go_wp2_with fail
    refine (rListsN_any A xs.length c xs _ ?_ (Lib.hid rfl)).mono ?_
    · exact (hx.below ((Below.refl _ _).alloc (Nat.le_refl _) _)).more (by simp)
    rintro e w1 ⟨rfl, hb1⟩
    have hb1' : Below w.heap.size w w1 := ((Below.refl _ _).alloc (Nat.le_refl _) _).trans (hb1.mono (by simp))
    have k1 := keepc (p := ⟨w.heap.size, 0, none⟩) (v := .int .i64 0) (by go_simp) hb1
    have k2 := keepc (p := ⟨w.heap.size, 1, none⟩) (v := .int .i64 0) (by go_simp) hb1
    have k3 := keepf (p := ⟨w.heap.size, 0, none⟩) (v := .int .i64 0) (by go_simp) (by go_simp) hb1
    have k4 := keepf (p := ⟨w.heap.size, 1, none⟩) (v := .int .i64 0) (by go_simp) (by go_simp) hb1
    have hz1 : w.heap.size < w1.heap.size := by have := hb1.size; simp at this; omega
    clear hb1
    rw [HE.out]
    go_wp2
    go_loopw [6] (fun i wr => ∃ k : Nat, k ≤ xs.length ∧ i = .int .i64 k ∧ wr.cell? ⟨w1.heap.size, 0, none⟩ = some (.int .i64 (loN (xs.take k))) ∧ wr.cell? ⟨w1.heap.size, 1, none⟩ = some (.int .i64 (hiN (xs.take k))) ∧
      wr.frozen? ⟨w1.heap.size, 0, none⟩ = false ∧ wr.frozen? ⟨w1.heap.size, 1, none⟩ = false ∧ w1.heap.size < wr.heap.size ∧ Below w1.heap.size w1 wr) (fun i _ => xs.length - (intOf i).toNat)
    case atStart => exact ⟨0, Nat.zero_le _, rfl, by go_simp; rfl, by go_simp; rfl, by go_simp, by go_simp, by go_simp, (Below.refl _ _).alloc (Nat.le_refl _) _⟩
    case round =>
      obtain ⟨k, hk, rfl, s1, s2, s3, s4, hzr, hb⟩ := hrel
      by_cases hlt : k < xs.length
      · obtain ⟨b, off, x, rfl, hB, hx', h1, h2⟩ := ((hx.below hb1').more hb1'.size |>.below hb) k hlt
        have hxb := (inR_iff x).1 (hin x (List.mem_of_getElem? hx'))
        have hsb := sums_bd (xs.take k) (fun y hy => hin y (List.mem_of_mem_take hy))
        have HS := Lib.hid (sums_snoc (xs.take k) x)
        have HT := Lib.hid (take_snocI hx')
        rw [List.length_take, Nat.min_eq_left hk] at hsb
        clear hx'
        generalize loN (xs.take k) = lo at s1 hsb HS
        generalize hiN (xs.take k) = hi at s2 hsb HS
        have hne0 : (b : Nat) ≠ w1.heap.size := by omega
        have hlt' : (k : Int) < (xs.length : Int) := by omega
        go_wp2
        go_region
        go_wp2
        go_region
        go_wp2
        go_roundw
        case rel =>
          exact ⟨k + 1, by omega, by go_num, by rw [HT.out, HS.out.1]; go_simp, by rw [HT.out, HS.out.2]; go_simp, by go_simp, by go_simp, by simp; omega,
            ((hb.setCell (Nat.le_refl _) _).setCell (Nat.le_refl _) _).drew.drew⟩
        case measure => simp [intOf]; omega
      · have hk' : k = xs.length := by omega
        subst hk'
        rw [List.take_length] at s1 s2
        have hc := fun w => rresult_any (loN xs, hiN xs) w
        have HC := Lib.hid hc
        clear hc
        have r1 := keepc k1 hb
        have r2 := keepc k2 hb
        have r3 := keepf k1 k3 hb
        have r4 := keepf k2 k4 hb
        go_wp2_with fail
        refine (HC.out _).mono ?_
        rintro e w2 ⟨rfl, hb2⟩
        rw [← HR.out]
        have q1 := keepc r1 hb2
        have q2 := keepc r2 hb2
        have q3 := keepf r1 r3 hb2
        have q4 := keepf r2 r4 hb2
        have hz2 := hb2.size
        clear r1 r2 r3 r4 k1 k2 k3 k4 s1 s2 s3 s4
        go_wp2_with fail
        refine bodyPost_ret (v := .tuple #[.agg #[.int .i64 (sumR xs).1.1, .int .i64 (sumR xs).1.2], .int .i64 (sumR xs).2]) ?_ rfl ⟨rfl, ?_⟩
        · simp [results, Try.results28, go_sem, q1, q2]
        · exact ((hb1'.trans (hb.mono hb1'.size)).trans (hb2.mono (by omega))).setCell (Nat.le_refl _) _ |>.setCell (Nat.le_refl _) _
  · have HR : Hid (sumR xs = ((0, 0), err1 xs)) := Lib.hid (by simp [sumR, he])
    have hne : (err1 xs != 0) = true := by simpa using he
    have hne' : (err1 xs == 0) = false := by simpa using he
    clear he
    go_enter Try.func28, Try.ntmps28
    go_wp2_with fail
    refine (rListsN_any A xs.length c xs _ ?_ (Lib.hid rfl)).mono ?_
    · exact (hx.below ((Below.refl _ _).alloc (Nat.le_refl _) _)).more (by simp)
    rintro e w1 ⟨rfl, hb1⟩
    have hb1' : Below w.heap.size w w1 := ((Below.refl _ _).alloc (Nat.le_refl _) _).trans (hb1.mono (by simp))
    have k1 := keepc (p := ⟨w.heap.size, 0, none⟩) (v := .int .i64 0) (by go_simp) hb1
    have k2 := keepc (p := ⟨w.heap.size, 1, none⟩) (v := .int .i64 0) (by go_simp) hb1
    have k3 := keepf (p := ⟨w.heap.size, 0, none⟩) (v := .int .i64 0) (by go_simp) (by go_simp) hb1
    have k4 := keepf (p := ⟨w.heap.size, 1, none⟩) (v := .int .i64 0) (by go_simp) (by go_simp) hb1
    have hz1 : w.heap.size < w1.heap.size := by have := hb1.size; simp at this; omega
    clear hb1
    go_wp2_with fail
    refine bodyPost_ret (v := .tuple #[.agg #[.int .i64 0, .int .i64 0], .int .i64 (err1 xs)]) ?_ rfl ⟨by rw [HR.out], ?_⟩
    · simp [results, Try.results28, go_sem, k1, k2]
    · exact (hb1'.setCell (Nat.le_refl _) _).setCell (Nat.le_refl _) _
end Go.Proofs.Ytekjhdpadddkpaa
