/- Calendars: Open of the program: how many minutes; the search. -/
import Derived.Test.YtlmijfgmfcnngaaShfD
namespace Go.Proofs.Ytlmijfgmfcnngaa
open Go.RowKit
theorem bDrew {B : Nat} {a w : World} (h : Below B a w) (q : Nat) : Below B a (w.drewN q) := h.trans ⟨rfl, rfl, rfl, Nat.le_refl _, fun _ _ => rfl⟩
section
variable {S : C0} {y z : Lay} {W : World} {be k0 k1 k2 k3 k4 : Int}
theorem dayE (m0 : 0 ≤ S.m) : 0 ≤ S.day ∧ S.m = S.day * 1440 + S.m.tmod 1440 ∧ 0 ≤ S.m.tmod 1440 ∧ S.m.tmod 1440 < 1440 := by
  unfold C0.day
  rw [Int.tdiv_eq_ediv_of_nonneg m0, Int.tmod_eq_emod_of_nonneg m0]
  omega
theorem loE (k : Int) : S.m ≤ S.lo k ∧ S.day * 1440 + S.fr k ≤ S.lo k ∧ (S.lo k = S.m ∨ S.lo k = S.day * 1440 + S.fr k) := mxI_spec _ _
theorem hiE (k : Int) (m1 : S.m < 14400000) : S.hi k ≤ S.m + 1 ∧ S.hi k ≤ S.day * 1440 + S.to k ∧ (S.hi k = S.m + 1 ∨ S.hi k = S.day * 1440 + S.to k) := by
  have a := mnI_spec (S.m + 1) 14400000
  have b := mnI_spec (mnI (S.m + 1) 14400000) (S.day * 1440 + S.to k)
  unfold C0.hi
  omega
theorem mets (m0 : 0 ≤ S.m) (m1 : S.m < 14400000) {k : Int} (hr : S.Rt k) : (S.fr k ≤ S.m.tmod 1440 ∧ S.m.tmod 1440 < S.to k → S.hi k - S.lo k = 1) ∧ (¬ (S.fr k ≤ S.m.tmod 1440 ∧ S.m.tmod 1440 < S.to k) → ¬ S.lo k < S.hi k) := by
  obtain ⟨d0, d1, d2, d3⟩ := dayE m0
  have a := loE (S := S) k
  have b := hiE (S := S) k m1
  obtain ⟨_, _, r1, r2, r3⟩ := hr
  generalize S.day * 1440 = D at *
  constructor
  · rintro ⟨h1, h2⟩; omega
  · intro h; omega
theorem sm_succ {k : Int} (h : 0 ≤ k) : S.sm (k + 1).toNat = S.sm k.toNat + (if S.wd k = S.day.tmod 7 + 1 then (if S.lo k < S.hi k then S.hi k - S.lo k else 0) else 0) := by
  obtain ⟨a, b⟩ := toN h
  rw [a]
  show S.sm k.toNat + (if S.wd (k.toNat : Int) = S.day.tmod 7 + 1 then (if S.lo (k.toNat : Int) < S.hi (k.toNat : Int) then S.hi (k.toNat : Int) - S.lo (k.toNat : Int) else 0) else 0) = _
  rw [b]
theorem far (hr : ∀ j, 0 ≤ j → j < S.n1 → S.Rt j) (ho : ∀ j, 0 ≤ j → j + 1 < S.n1 → S.Os j) {i : Int} (i0 : 0 ≤ i) : ∀ d : Nat, i + d + 1 < S.n1 → S.wd i < S.wd (i + d + 1) ∨ (S.wd i = S.wd (i + d + 1) ∧ S.to i ≤ S.fr (i + d + 1))
  | 0, h => by
    have := ho i i0 (by omega)
    have e : i + ((0 : Nat) : Int) + 1 = i + 1 := by omega
    rw [e]
    exact this
  | d + 1, h => by
    have a := far hr ho i0 d (by omega)
    have b := ho (i + d + 1) (by omega) (by omega)
    have c := hr (i + d + 1) (by omega) (by omega)
    have e : i + ((d + 1 : Nat) : Int) + 1 = i + d + 1 + 1 := by omega
    rw [e]
    unfold C0.Os at b
    obtain ⟨_, _, _, c1, _⟩ := c
    omega
theorem one_hit (hr : ∀ j, 0 ≤ j → j < S.n1 → S.Rt j) (ho : ∀ j, 0 ≤ j → j + 1 < S.n1 → S.Os j) {i j : Int} (i0 : 0 ≤ i) (ij : i < j) (jn : j < S.n1) (hi : Hit S i) (hj : Hit S j) : False := by
  have a := far hr ho i0 (j - i - 1).toNat (by omega)
  have e : i + ((j - i - 1).toNat : Int) + 1 = j := by omega
  rw [e] at a
  obtain ⟨h1, h2, h3⟩ := hi
  obtain ⟨g1, g2, g3⟩ := hj
  omega
theorem sm_is (hr : ∀ j, 0 ≤ j → j < S.n1 → S.Rt j) (ho : ∀ j, 0 ≤ j → j + 1 < S.n1 → S.Os j) (m0 : 0 ≤ S.m) (m1 : S.m < 14400000) : ∀ k : Nat, (k : Int) ≤ S.n1 → ((∃ i : Int, 0 ≤ i ∧ i < k ∧ Hit S i) → S.sm k = 1) ∧ ((∀ i : Int, 0 ≤ i → i < k → ¬ Hit S i) → S.sm k = 0)
  | 0, _ => ⟨fun ⟨i, a, b, _⟩ => by omega, fun _ => rfl⟩
  | k + 1, hk => by
    obtain ⟨p, q⟩ := sm_is hr ho m0 m1 k (by omega)
    have mt := mets m0 m1 (hr k (by omega) (by omega))
    have e : S.sm (k + 1) = S.sm k + (if S.wd k = S.day.tmod 7 + 1 then (if S.lo k < S.hi k then S.hi k - S.lo k else 0) else 0) := rfl
    by_cases hk' : Hit S k
    · have t : (if S.wd k = S.day.tmod 7 + 1 then (if S.lo k < S.hi k then S.hi k - S.lo k else 0) else 0) = 1 := by
        have := mt.1 hk'.2
        rw [if_pos hk'.1, if_pos (by omega), this]
      have z0 : S.sm k = 0 := q fun i a b c => one_hit hr ho a b (by omega) c hk'
      refine ⟨fun _ => by rw [e, t, z0]; rfl, fun hn => absurd hk' (hn k (by omega) (by omega))⟩
    · have t : (if S.wd k = S.day.tmod 7 + 1 then (if S.lo k < S.hi k then S.hi k - S.lo k else 0) else 0) = 0 := by
        by_cases c : S.wd k = S.day.tmod 7 + 1
        · rw [if_pos c, if_neg (mt.2 fun h => hk' ⟨c, h⟩)]
        · rw [if_neg c]
      rw [e, t, Int.add_zero]
      refine ⟨fun ⟨i, a, b, c⟩ => p ⟨i, a, ?_, c⟩, fun hn => q fun i a b => hn i a (by omega)⟩
      by_cases ei : i = k
      · exact absurd (ei ▸ c) hk'
      · omega
theorem sm_bd (hr : ∀ j, 0 ≤ j → j < S.n1 → S.Rt j) (ho : ∀ j, 0 ≤ j → j + 1 < S.n1 → S.Os j) (m0 : 0 ≤ S.m) (m1 : S.m < 14400000) (k : Nat) (hk : (k : Int) ≤ S.n1) : 0 ≤ S.sm k ∧ S.sm k ≤ 1 := by
  obtain ⟨p, q⟩ := sm_is hr ho m0 m1 k hk
  by_cases c : ∃ i : Int, 0 ≤ i ∧ i < k ∧ Hit S i
  · rw [p c]; exact ⟨by decide, by decide⟩
  · rw [q fun i a b d => c ⟨i, a, b, d⟩]; exact ⟨by decide, by decide⟩
/-! The search -/
theorem fd_mono (ho : ∀ j, 0 ≤ j → j + 1 < S.n2 → S.Od j) {i : Int} (i0 : 0 ≤ i) : ∀ d : Nat, i + d + 1 < S.n2 → S.fd i < S.fd (i + d + 1)
  | 0, h => by
    have := ho i i0 (by omega)
    have e : i + ((0 : Nat) : Int) + 1 = i + 1 := by omega
    rw [e]
    exact this
  | d + 1, h => by
    have a := fd_mono ho i0 d (by omega)
    have b : S.fd (i + d + 1) < S.fd (i + d + 1 + 1) := ho (i + d + 1) (by omega) (by omega)
    have e : i + ((d + 1 : Nat) : Int) + 1 = i + d + 1 + 1 := by omega
    rw [e]
    omega
def zsL (S : C0) : List Int := (List.range S.n2.toNat).map fun (j : Nat) => S.fd (j : Int)
def idx (S : C0) : Int := (((zsL S).take S.n2.toNat).countP (· < S.day) : Nat)
theorem zs_len : (zsL S).length = S.n2.toNat := by simp [zsL]
theorem zs_at {j : Nat} (h : j < (zsL S).length) : (zsL S).getD j 0 = S.fd j := by
  rw [zs_len] at h
  simp [zsL, List.getD_eq_getElem?_getD, h]
theorem zs_has : ((zsL S).take S.n2.toNat).contains S.day = true ↔ FreeDay S := by
  rw [List.take_of_length_le (by rw [zs_len]; exact Nat.le_refl _)]
  simp only [zsL, List.contains_iff_mem, List.mem_map, List.mem_range]
  constructor
  · rintro ⟨j, hj, e⟩; exact ⟨j, by omega, by omega, e⟩
  · rintro ⟨j, h0, h1, e⟩; exact ⟨j.toNat, by omega, by rw [← e]; congr 1; omega⟩
def SArgs (S : C0) (z : Lay) : Array Value := #[.slice z.p S.n2.toNat z.c, .int .i64 S.day]
theorem bs_none : treeL Try.prog [] [L0, L1] [] [(.lt (.lit 0) (.at 2), false), (.eq (.at 2) (.lit 0), true)] 300 30 60 [.one (.ssl L1), .one (i8 day)] = .ret (.tup [⟨false, [i8 (.lit 0)]⟩, ⟨false, [.bool (.lit false)]⟩]) := by kernel_rfl
theorem bs_any (hL : Lies S y z W) (h : Few S) (ho : ∀ j, 0 ≤ j → j + 1 < S.n2 → S.Od j) {b : Bool} (hb : b = true ↔ FreeDay S) : Calls Try.prog 60 (SArgs S z) W fun e w' => e = .returned (.tuple #[.int .i64 (idx S), .bool b]) ∧ Below W.heap.size W w' := by
  by_cases c : 0 < S.n2
  · have hp := hL.p2 c
    have hs : ((zsL S).take S.n2.toNat).Pairwise (· ≤ ·) := by
      rw [List.take_of_length_le (by rw [zs_len]; exact Nat.le_refl _)]
      refine List.pairwise_iff_getElem.2 fun i j hi hj hij => ?_
      rw [zs_len] at hi hj
      simp only [zsL, List.getElem_map, List.getElem_range]
      have := fd_mono ho (i := (i : Int)) (by omega) (j - i - 1) (by omega)
      have e : (i : Int) + ((j - i - 1 : Nat) : Int) + 1 = j := by omega
      rw [e] at this
      omega
    have q := Any.slices_BinarySearch_int Try.bsL z.a z.o S.n2.toNat z.c (zsL S) S.day W (by rw [zs_len]; exact Nat.le_refl _) (by have := h.d; omega) (fun j hj => by
      rw [zs_at hj]
      rw [zs_len] at hj
      have := hL.d0 j (by omega)
      rw [Nat.mul_one] at this
      exact this) hs
    have e1 : ((zsL S).take S.n2.toNat).contains S.day = b := by
      cases b with
      | true => exact zs_has.2 (hb.1 rfl)
      | false =>
        cases e : ((zsL S).take S.n2.toNat).contains S.day with
        | false => rfl
        | true => have := hb.2 (zs_has.1 e); cases this
    rw [e1] at q
    unfold SArgs
    rw [hp]
    refine q.mono ?_
    rintro e w' ⟨rfl, k, rfl⟩
    exact ⟨rfl, bDrew (Below.refl _ _) _⟩
  · have n0 : S.n2 = 0 := by have := h.c; omega
    have hq : PC.Ok (ES S y z 0 0 0 0 0 0) [(.lt (.lit 0) (.at 2), false), (.eq (.at 2) (.lit 0), true)] := .cons' (show S.n2 ≤ 0 by omega) (.cons' n0 .nil)
    have e0 : b = false := by
      cases b with
      | false => rfl
      | true => obtain ⟨j, a, b', _⟩ := hb.1 rfl; omega
    have e1 : idx S = 0 := by unfold idx; rw [n0]; rfl
    have h' := tree_funL (base0 (be := 0) (k0 := 0) (k1 := 0) (k2 := 0) (k3 := 0) (k4 := 0) hL) hq wide bs_none (by kernel_rfl) rfl (u := .tuple #[.int .i64 0, .bool false]) (All.ret rfl)
    rw [e0, e1]
    exact h'
end
end Go.Proofs.Ytlmijfgmfcnngaa
