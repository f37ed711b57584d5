/- The reference's extremes of a box. -/
import Derived.Test.YtdcblfibkoiflaaPlaM
import Derived.Test.YtdcblfibkoiflaaPlaH
namespace Go.Proofs.Ytdcblfibkoiflaa
open Go.RowKit
def cX (x u : Int) (k : Nat) : Int := if k % 2 = 1 then u else x
def cY (y v : Int) (k : Nat) : Int := if k / 2 % 2 = 1 then v else y
def cZ (z w : Int) (k : Nat) : Int := if k / 4 = 1 then w else z
def val8 (a b c d x y z u v w : Int) (k : Nat) : Int := a * cX x u k + b * cY y v k + c * cZ z w k - d
def loN (f : Nat → Int) : Nat → Int
  | 0 => f 0
  | k + 1 => mnI (loN f k) (f k)
def hiN (f : Nat → Int) : Nat → Int
  | 0 => f 0
  | k + 1 => mxI (hiN f k) (f k)
theorem le_loN {f : Nat → Int} {L : Int} : ∀ {k : Nat}, (∀ i, i < k ∨ i = 0 → L ≤ f i) → L ≤ loN f k
  | 0, h => h 0 (.inr rfl)
  | k + 1, h => by
    have e := mnI_spec (loN f k) (f k)
    have h1 : L ≤ loN f k := le_loN fun i hi => h i (by omega)
    have h2 := h k (.inl (Nat.lt_succ_self k))
    show L ≤ mnI (loN f k) (f k)
    omega
theorem loN_le {f : Nat → Int} : ∀ {k i : Nat}, i < k → loN f k ≤ f i
  | k + 1, i, h => by
    have e := mnI_spec (loN f k) (f k)
    show mnI (loN f k) (f k) ≤ f i
    rcases Nat.lt_or_ge i k with h1 | h1
    · have := loN_le (f := f) h1; omega
    · obtain rfl : i = k := by omega
      omega
theorem hiN_le {f : Nat → Int} {L : Int} : ∀ {k : Nat}, (∀ i, i < k ∨ i = 0 → f i ≤ L) → hiN f k ≤ L
  | 0, h => h 0 (.inr rfl)
  | k + 1, h => by
    have e := mxI_spec (hiN f k) (f k)
    have h1 : hiN f k ≤ L := hiN_le fun i hi => h i (by omega)
    have h2 := h k (.inl (Nat.lt_succ_self k))
    show mxI (hiN f k) (f k) ≤ L
    omega
theorem le_hiN {f : Nat → Int} : ∀ {k i : Nat}, i < k → f i ≤ hiN f k
  | k + 1, i, h => by
    have e := mxI_spec (hiN f k) (f k)
    show f i ≤ mxI (hiN f k) (f k)
    rcases Nat.lt_or_ge i k with h1 | h1
    · have := le_hiN (f := f) h1; omega
    · obtain rfl : i = k := by omega
      omega
theorem val8_in (a b c d x y z u v w : Int) (k : Nat) : loE a b c d x y z u v w ≤ val8 a b c d x y z u v w k ∧ val8 a b c d x y z u v w k ≤ hiE a b c d x y z u v w := by
  have e1 := mnI_spec (a * x) (a * u)
  have e2 := mnI_spec (b * y) (b * v)
  have e3 := mnI_spec (c * z) (c * w)
  have g1 := mxI_spec (a * x) (a * u)
  have g2 := mxI_spec (b * y) (b * v)
  have g3 := mxI_spec (c * z) (c * w)
  have h1 : a * cX x u k = a * x ∨ a * cX x u k = a * u := by unfold cX; split <;> simp
  have h2 : b * cY y v k = b * y ∨ b * cY y v k = b * v := by unfold cY; split <;> simp
  have h3 : c * cZ z w k = c * z ∨ c * cZ z w k = c * w := by unfold cZ; split <;> simp
  unfold loE hiE val8
  omega
theorem val8_some (a b c d x y z u v w p q r : Int) (h1 : p = a * x ∨ p = a * u) (h2 : q = b * y ∨ q = b * v) (h3 : r = c * z ∨ r = c * w) : ∃ k, k < 8 ∧ val8 a b c d x y z u v w k = 0 - d + p + q + r := by
  rcases h1 with rfl | rfl <;> rcases h2 with rfl | rfl <;> rcases h3 with rfl | rfl
  · exact ⟨0, by omega, by show a * x + b * y + c * z - d = _; omega⟩
  · exact ⟨4, by omega, by show a * x + b * y + c * w - d = _; omega⟩
  · exact ⟨2, by omega, by show a * x + b * v + c * z - d = _; omega⟩
  · exact ⟨6, by omega, by show a * x + b * v + c * w - d = _; omega⟩
  · exact ⟨1, by omega, by show a * u + b * y + c * z - d = _; omega⟩
  · exact ⟨5, by omega, by show a * u + b * y + c * w - d = _; omega⟩
  · exact ⟨3, by omega, by show a * u + b * v + c * z - d = _; omega⟩
  · exact ⟨7, by omega, by show a * u + b * v + c * w - d = _; omega⟩
theorem loN_loE (a b c d x y z u v w : Int) : loN (val8 a b c d x y z u v w) 8 = loE a b c d x y z u v w := by
  have h1 : loE a b c d x y z u v w ≤ loN (val8 a b c d x y z u v w) 8 := le_loN fun i _ => (val8_in a b c d x y z u v w i).1
  obtain ⟨k, hk, e⟩ := val8_some a b c d x y z u v w _ _ _ (mnI_spec (a * x) (a * u)).2.2 (mnI_spec (b * y) (b * v)).2.2 (mnI_spec (c * z) (c * w)).2.2
  have h2 : loN (val8 a b c d x y z u v w) 8 ≤ val8 a b c d x y z u v w k := loN_le hk
  have h3 : val8 a b c d x y z u v w k = loE a b c d x y z u v w := e
  omega
theorem hiN_hiE (a b c d x y z u v w : Int) : hiN (val8 a b c d x y z u v w) 8 = hiE a b c d x y z u v w := by
  have h1 : hiN (val8 a b c d x y z u v w) 8 ≤ hiE a b c d x y z u v w := hiN_le fun i _ => (val8_in a b c d x y z u v w i).2
  obtain ⟨k, hk, e⟩ := val8_some a b c d x y z u v w _ _ _ (mxI_spec (a * x) (a * u)).2.2 (mxI_spec (b * y) (b * v)).2.2 (mxI_spec (c * z) (c * w)).2.2
  have h2 : val8 a b c d x y z u v w k ≤ hiN (val8 a b c d x y z u v w) 8 := le_hiN hk
  have h3 : val8 a b c d x y z u v w k = hiE a b c d x y z u v w := e
  omega
def rP : PC := rg 8 (-1000000) 1000000 ++ rg 9 (-1000000) 1000000 ++ rg 10 (-1000000) 1000000
theorem rvT : tree Try.prog [] (rH ++ rP) 300 20 17 [.agg (iv 0 4), .agg (iv 8 3)] = .ret (.one (.int .i64 (.sub (.add (.add (.mul (.at 0) (.at 8)) (.mul (.at 1) (.at 9))) (.mul (.at 2) (.at 10))) (.at 3)))) := by kernel_rfl
theorem rValue_any {a b c d p q r : Int} (h : chkH a b c d = 0) (hp : -1000000 ≤ p ∧ p ≤ 1000000) (hq : -1000000 ≤ q ∧ q ≤ 1000000) (hr : -1000000 ≤ r ∧ r ≤ 1000000) (W : World) : Calls Try.prog 17 #[.agg #[.int .i64 a, .int .i64 b, .int .i64 c, .int .i64 d], .agg #[.int .i64 p, .int .i64 q, .int .i64 r]] W fun e w' =>
    e = .returned (.int .i64 (a * p + b * q + c * r - d)) ∧ Below W.heap.size W w' := by
  obtain ⟨ha, hb, hc, hd, _⟩ := chkH_ok h
  have e1 : PC.Ok (envX [a, b, c, d, 0, 0, 0, 0, p, q, r] []) rH := (((rg_ok ha.1 ha.2).app (rg_ok hb.1 hb.2)).app (rg_ok hc.1 hc.2)).app (rg_ok hd.1 hd.2)
  exact tree_fun (ρ := envX [a, b, c, d, 0, 0, 0, 0, p, q, r] []) .nil (e1.app (((rg_ok hp.1 hp.2).app (rg_ok hq.1 hq.2)).app (rg_ok hr.1 hr.2))) wide rvT (by kernel_rfl) rfl (All.ret rfl) W
theorem keep7 {w0 w1 w2 : World} {p1 p2 p3 p4 p5 p6 p7 : Addr} {v1 v2 v3 v4 v5 v6 v7 : Value} (h : w1.cell? p1 = some v1 ∧ w1.cell? p2 = some v2 ∧ w1.cell? p3 = some v3 ∧ w1.cell? p4 = some v4 ∧ w1.cell? p5 = some v5 ∧ w1.cell? p6 = some v6 ∧ w1.cell? p7 = some v7 ∧ Below w0.heap.size w0 w1) (hb : Below w1.heap.size w1 w2) :
    w2.cell? p1 = some v1 ∧ w2.cell? p2 = some v2 ∧ w2.cell? p3 = some v3 ∧ w2.cell? p4 = some v4 ∧ w2.cell? p5 = some v5 ∧ w2.cell? p6 = some v6 ∧ w2.cell? p7 = some v7 ∧ Below w0.heap.size w0 w2 :=
  ⟨keepc h.1 hb, keepc h.2.1 hb, keepc h.2.2.1 hb, keepc h.2.2.2.1 hb, keepc h.2.2.2.2.1 hb, keepc h.2.2.2.2.2.1 hb, keepc h.2.2.2.2.2.2.1 hb, h.2.2.2.2.2.2.2.trans (hb.mono h.2.2.2.2.2.2.2.size)⟩
set_option maxHeartbeats 8000000 in
theorem rExtremes_any {a b c d x y z u v w : Int} (h1 : chkH a b c d = 0) (h2 : chkB x y z u v w = 0) (W : World) : Calls Try.prog 21 #[.agg #[.int .i64 a, .int .i64 b, .int .i64 c, .int .i64 d], .agg #[.int .i64 x, .int .i64 y, .int .i64 z, .int .i64 u, .int .i64 v, .int .i64 w]] W fun e w' =>
    e = .returned (.tuple #[.int .i64 (loE a b c d x y z u v w), .int .i64 (hiE a b c d x y z u v w)]) ∧ Below W.heap.size W w' := by
  have HLO := Lib.hid (loN_loE a b c d x y z u v w)
  have HHI := Lib.hid (hiN_hiE a b c d x y z u v w)
  obtain ⟨⟨p1, p2, p3⟩, ⟨p4, p5, p6⟩, p7, p8, p9⟩ := chkB_ok h2
  have HVAL : Hid (∀ (k : Nat) (w' : World), Calls Try.prog 17 #[.agg #[.int .i64 a, .int .i64 b, .int .i64 c, .int .i64 d], .agg #[.int .i64 (cX x u k), .int .i64 (cY y v k), .int .i64 (cZ z w k)]] w' fun e w2 => e = .returned (.int .i64 (val8 a b c d x y z u v w k)) ∧ Below w'.heap.size w' w2) :=
    Lib.hid fun k w' => rValue_any h1 (by unfold cX; split <;> omega) (by unfold cY; split <;> omega) (by unfold cZ; split <;> omega) w'
  have hb0 : Below W.heap.size W ((W.alloc (.cells #[.int .i64 a, .int .i64 b, .int .i64 c, .int .i64 d] 23)).alloc (.cells #[.int .i64 x, .int .i64 y, .int .i64 z, .int .i64 u, .int .i64 v, .int .i64 w] 35)) := bnew (bnew (Below.refl _ _) _) _
  go_enter Try.func21, Try.ntmps21
  go_wp2_with fail
  refine (corners_any _ _ _ _ _ _ _).mono ?_
  rintro e w3 ⟨r, rfl, hr, hb⟩
  obtain ⟨A, cp, rfl, hc⟩ := RdC.of_own hr
  rcases hc with hc | ⟨g, off, rfl, hg, hcells⟩
  · exact absurd hc (by simp [crn, List.range_succ, cor8])
  have hcell : ∀ k, k < 8 → w3.cell? ⟨g, off + k * 3, none⟩ = some (.int .i64 (cX x u k)) ∧ w3.cell? ⟨g, off + k * 3 + 1, none⟩ = some (.int .i64 (cY y v k)) ∧ w3.cell? ⟨g, off + k * 3 + 2, none⟩ = some (.int .i64 (cZ z w k)) := by
    intro k hk
    rcases (by omega : k = 0 ∨ k = 1 ∨ k = 2 ∨ k = 3 ∨ k = 4 ∨ k = 5 ∨ k = 6 ∨ k = 7) with rfl | rfl | rfl | rfl | rfl | rfl | rfl | rfl <;>
      exact ⟨hcells _ _ rfl, by rw [Nat.add_assoc]; exact hcells _ _ rfl, by rw [Nat.add_assoc]; exact hcells _ _ rfl⟩
  have k0 := keepc (p := ⟨W.heap.size, 0, none⟩) (v := .int .i64 a) (by go_simp) hb
  have k1 := keepc (p := ⟨W.heap.size, 1, none⟩) (v := .int .i64 b) (by go_simp) hb
  have k2 := keepc (p := ⟨W.heap.size, 2, none⟩) (v := .int .i64 c) (by go_simp) hb
  have k3 := keepc (p := ⟨W.heap.size, 3, none⟩) (v := .int .i64 d) (by go_simp) hb
  have hW := hb0.trans (hb.mono hb0.size)
  have hltW : W.heap.size < w3.heap.size := by have := hb.size; simp at this; omega
  have HC := Lib.hid hcell
  clear hr hcells hb hb0 hcell
  obtain ⟨c0, c1, c2⟩ := HC.out 0 (by omega)
  rw [Nat.zero_mul, Nat.add_zero] at c0 c1 c2
  have HV0 := Lib.hid (HVAL.out 0)
  obtain ⟨v0, hv0⟩ : ∃ n, n = val8 a b c d x y z u v w 0 := ⟨_, rfl⟩
  rw [← hv0] at HV0
  have HV0' := Lib.hid hv0
  clear hv0
  generalize cX x u 0 = px at c0 HV0
  generalize cY y v 0 = py at c1 HV0
  generalize cZ z w 0 = pz at c2 HV0
  go_wp2_with fail
  go_region_held3 (fun w' => w'.cell? ⟨W.heap.size, 0, none⟩ = some (.int .i64 a) ∧ w'.cell? ⟨W.heap.size, 1, none⟩ = some (.int .i64 b) ∧ w'.cell? ⟨W.heap.size, 2, none⟩ = some (.int .i64 c) ∧ w'.cell? ⟨W.heap.size, 3, none⟩ = some (.int .i64 d) ∧ w'.cell? ⟨g, off, none⟩ = some (.int .i64 px) ∧ w'.cell? ⟨g, off + 1, none⟩ = some (.int .i64 py) ∧ w'.cell? ⟨g, off + 2, none⟩ = some (.int .i64 pz) ∧ Below w3.heap.size w3 w') (first | exact keep7 (by assumption) hbl | exact ⟨k0, k1, k2, k3, c0, c1, c2, (Below.refl _ _).drew⟩) ((go_at_call 17; refine (HV0.out _).mono ?_; rintro e w' ⟨rfl, hbl⟩))
  rename_i hS
  have hb4 := hS.2.2.2.2.2.2.2
  clear hS HV0 c0 c1 c2
  go_wp2
  go_loopw [7, 8, 9] (fun lo hi i wr => ∃ k : Nat, 1 ≤ k ∧ k ≤ 8 ∧ i = .int .i64 (k : Int) ∧ lo = .int .i64 (loN (val8 a b c d x y z u v w) k) ∧ hi = .int .i64 (hiN (val8 a b c d x y z u v w) k) ∧ Below w3.heap.size w3 wr) (fun _ _ i _ => (8 - intOf i).toNat)
  case atStart =>
    have hv := HV0'.out
    subst hv
    refine ⟨1, Nat.le_refl _, by omega, rfl, congrArg (Value.int .i64) ?_, congrArg (Value.int .i64) ?_, by assumption⟩
    · show _ = mnI _ _; unfold mnI; split <;> rfl
    · show _ = mxI _ _; unfold mxI; split <;> rfl
  case round =>
    obtain ⟨k, hk1, hk8, rfl, rfl, rfl, hbr⟩ := hrel
    by_cases hlt : k < 8
    · obtain ⟨e0, e1, e2⟩ := HC.out k hlt
      have HVk := Lib.hid (HVAL.out k)
      have EL : Hid (loN (val8 a b c d x y z u v w) (k + 1) = mnI (loN (val8 a b c d x y z u v w) k) (val8 a b c d x y z u v w k)) := Lib.hid rfl
      have EH : Hid (hiN (val8 a b c d x y z u v w) (k + 1) = mxI (hiN (val8 a b c d x y z u v w) k) (val8 a b c d x y z u v w k)) := Lib.hid rfl
      have c0 := (hbr.cell (p := ⟨g, off + k * 3, none⟩) hg).trans e0
      have c1 := (hbr.cell (p := ⟨g, off + k * 3 + 1, none⟩) hg).trans e1
      have c2 := (hbr.cell (p := ⟨g, off + k * 3 + 2, none⟩) hg).trans e2
      have r0 := (hbr.cell (p := ⟨W.heap.size, 0, none⟩) hltW).trans k0
      have r1 := (hbr.cell (p := ⟨W.heap.size, 1, none⟩) hltW).trans k1
      have r2 := (hbr.cell (p := ⟨W.heap.size, 2, none⟩) hltW).trans k2
      have r3 := (hbr.cell (p := ⟨W.heap.size, 3, none⟩) hltW).trans k3
      clear e0 e1 e2
      generalize val8 a b c d x y z u v w k = vk at HVk EL EH
      generalize loN (val8 a b c d x y z u v w) k = lo at EL
      generalize hiN (val8 a b c d x y z u v w) k = hi at EH
      generalize cX x u k = px at c0 HVk
      generalize cY y v k = py at c1 HVk
      generalize cZ z w k = pz at c2 HVk
      have hlt' : (k : Int) < 8 := by omega
      go_wp2
      by_cases m1 : vk < lo
      · by_cases m2 : hi < vk
        · go_region_held3 (fun w' => w'.cell? ⟨W.heap.size, 0, none⟩ = some (.int .i64 a) ∧ w'.cell? ⟨W.heap.size, 1, none⟩ = some (.int .i64 b) ∧ w'.cell? ⟨W.heap.size, 2, none⟩ = some (.int .i64 c) ∧ w'.cell? ⟨W.heap.size, 3, none⟩ = some (.int .i64 d) ∧ w'.cell? ⟨g, off + k * 3, none⟩ = some (.int .i64 px) ∧ w'.cell? ⟨g, off + k * 3 + 1, none⟩ = some (.int .i64 py) ∧ w'.cell? ⟨g, off + k * 3 + 2, none⟩ = some (.int .i64 pz) ∧ Below w3.heap.size w3 w') (first | (with_reducible assumption) | exact keep7 (by assumption) hbl | exact ⟨r0, r1, r2, r3, c0, c1, c2, hbr.drew⟩) ((go_at_call 17; refine (HVk.out _).mono ?_; rintro e w' ⟨rfl, hbl⟩))
          all_goals
            rename_i hS
            have hb5 := hS.2.2.2.2.2.2.2
            go_wp2
            go_roundw
            case rel => exact ⟨k + 1, by omega, by omega, by go_num, by rw [EL.out]; unfold mnI; rw [if_pos (by omega)], by rw [EH.out]; unfold mxI; rw [if_pos (by omega)], hb5⟩
            case measure => simp [intOf]; omega
        · have n2 := Int.not_lt.1 m2
          go_region_held3 (fun w' => w'.cell? ⟨W.heap.size, 0, none⟩ = some (.int .i64 a) ∧ w'.cell? ⟨W.heap.size, 1, none⟩ = some (.int .i64 b) ∧ w'.cell? ⟨W.heap.size, 2, none⟩ = some (.int .i64 c) ∧ w'.cell? ⟨W.heap.size, 3, none⟩ = some (.int .i64 d) ∧ w'.cell? ⟨g, off + k * 3, none⟩ = some (.int .i64 px) ∧ w'.cell? ⟨g, off + k * 3 + 1, none⟩ = some (.int .i64 py) ∧ w'.cell? ⟨g, off + k * 3 + 2, none⟩ = some (.int .i64 pz) ∧ Below w3.heap.size w3 w') (first | (with_reducible assumption) | exact keep7 (by assumption) hbl | exact ⟨r0, r1, r2, r3, c0, c1, c2, hbr.drew⟩) ((go_at_call 17; refine (HVk.out _).mono ?_; rintro e w' ⟨rfl, hbl⟩))
          all_goals
            rename_i hS
            have hb5 := hS.2.2.2.2.2.2.2
            go_wp2
            go_roundw
            case rel => exact ⟨k + 1, by omega, by omega, by go_num, by rw [EL.out]; unfold mnI; rw [if_pos (by omega)], by rw [EH.out]; unfold mxI; rw [if_neg (by omega)], hb5⟩
            case measure => simp [intOf]; omega
      · have n1 := Int.not_lt.1 m1
        by_cases m2 : hi < vk
        · go_region_held3 (fun w' => w'.cell? ⟨W.heap.size, 0, none⟩ = some (.int .i64 a) ∧ w'.cell? ⟨W.heap.size, 1, none⟩ = some (.int .i64 b) ∧ w'.cell? ⟨W.heap.size, 2, none⟩ = some (.int .i64 c) ∧ w'.cell? ⟨W.heap.size, 3, none⟩ = some (.int .i64 d) ∧ w'.cell? ⟨g, off + k * 3, none⟩ = some (.int .i64 px) ∧ w'.cell? ⟨g, off + k * 3 + 1, none⟩ = some (.int .i64 py) ∧ w'.cell? ⟨g, off + k * 3 + 2, none⟩ = some (.int .i64 pz) ∧ Below w3.heap.size w3 w') (first | (with_reducible assumption) | exact keep7 (by assumption) hbl | exact ⟨r0, r1, r2, r3, c0, c1, c2, hbr.drew⟩) ((go_at_call 17; refine (HVk.out _).mono ?_; rintro e w' ⟨rfl, hbl⟩))
          all_goals
            rename_i hS
            have hb5 := hS.2.2.2.2.2.2.2
            go_wp2
            go_roundw
            case rel => exact ⟨k + 1, by omega, by omega, by go_num, by rw [EL.out]; unfold mnI; rw [if_neg (by omega)], by rw [EH.out]; unfold mxI; rw [if_pos (by omega)], hb5⟩
            case measure => simp [intOf]; omega
        · have n2 := Int.not_lt.1 m2
          go_region_held3 (fun w' => w'.cell? ⟨W.heap.size, 0, none⟩ = some (.int .i64 a) ∧ w'.cell? ⟨W.heap.size, 1, none⟩ = some (.int .i64 b) ∧ w'.cell? ⟨W.heap.size, 2, none⟩ = some (.int .i64 c) ∧ w'.cell? ⟨W.heap.size, 3, none⟩ = some (.int .i64 d) ∧ w'.cell? ⟨g, off + k * 3, none⟩ = some (.int .i64 px) ∧ w'.cell? ⟨g, off + k * 3 + 1, none⟩ = some (.int .i64 py) ∧ w'.cell? ⟨g, off + k * 3 + 2, none⟩ = some (.int .i64 pz) ∧ Below w3.heap.size w3 w') (first | (with_reducible assumption) | exact keep7 (by assumption) hbl | exact ⟨r0, r1, r2, r3, c0, c1, c2, hbr.drew⟩) ((go_at_call 17; refine (HVk.out _).mono ?_; rintro e w' ⟨rfl, hbl⟩))
          all_goals
            rename_i hS
            have hb5 := hS.2.2.2.2.2.2.2
            go_wp2
            go_roundw
            case rel => exact ⟨k + 1, by omega, by omega, by go_num, by rw [EL.out]; unfold mnI; rw [if_neg (by omega)], by rw [EH.out]; unfold mxI; rw [if_neg (by omega)], hb5⟩
            case measure => simp [intOf]; omega
    · obtain rfl : k = 8 := by omega
      rw [HLO.out, HHI.out]
      go_wp2
      refine bodyPost_ret (v := .tuple #[.int .i64 (loE a b c d x y z u v w), .int .i64 (hiE a b c d x y z u v w)]) ?_ rfl ⟨rfl, hW.trans (hbr.mono hW.size)⟩
      simp [results, Try.results21, go_sem]
end Go.Proofs.Ytdcblfibkoiflaa
