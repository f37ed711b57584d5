/- Prisms that are moved, parts of prisms: what Move, Slice hand back; Overlaps of these. -/
import Derived.Test.YtmpadjlplgajcaaPriH
import Derived.Test.YtmpadjlplgajcaaE4X
namespace Go.Proofs.Ytmpadjlplgajcaa
open Go.RowKit
section
variable {S : S0} {y : Lay} {W : World} {dx dy dz z be : Int}
/-- The prism and the box, moved. -/
def mvS (S : S0) (dx dy dz : Int) : S0 := ⟨S.n, fun k => S.X k + dx, fun k => S.Y k + dy, S.lo + dz, S.hi + dz, S.u + dx, S.v + dy, S.w + dz, S.p + dx, S.q + dy, S.r + dz⟩
def FM (S : S0) (dx dy : Int) (f : Nat) (k c : Int) : Int :=
  if f = 40 then (if c = 0 then S.X k + dx else S.Y k + dy)
  else if f = 41 then (if c < k then S.X c + dx else S.X c)
  else if f = 42 then (if c < k then S.Y c + dy else S.Y c)
  else S.F f k c
def EM (S : S0) (y : Lay) (dx dy dz z be k : Int) : EnvS := EP [S.lo, S.hi, S.u, S.v, S.w, S.p, S.q, S.r, S.n, be, k, 0, 0, 0, 0, 0, 0, 0, 0, 0, S.bd 0 S.n.toNat, S.bd 1 S.n.toNat, S.bd 2 S.n.toNat, S.bd 3 S.n.toNat, dx, dy, dz, z] (FM S dx dy) y
theorem EM_10 {k j : Int} : (EM S y dx dy dz z be k).upd 10 j = EM S y dx dy dz z be j := EP_upd (by simp)
theorem em_lok (h : Lies S y W) {k : Int} : LOk (EM S y dx dy dz z be k) W L0 := by
  refine ⟨h.nn, fun q => h.pt q, fun j c x hj hk => ?_⟩
  have hj' : (j : Int) < S.n := hj
  match c, hk with
  | 0, hk => cases hk; exact h.cx j hj'
  | 1, hk => cases hk; exact h.cy j hj'
  | c + 2, hk => simp [L0] at hk
theorem em_lols (h : Lies S y W) {k : Int} : ∀ L ∈ [L0], LOk (EM S y dx dy dz z be k) W L := fun L hL => by rw [List.mem_singleton.1 hL]; exact em_lok h
/-! Overlaps, whatever it comes to. -/
def Ans (S : S0) : Prop := (S.lo < S.r ∧ S.w < S.hi) ∧ (∀ j, 0 ≤ j → j < S.n → Lf S j) ∧ ¬ Nr S 0 ∧ ¬ Nr S 1 ∧ ¬ Nr S 2 ∧ ¬ Nr S 3
theorem Ov_is (V : Val S y W) {o : Bool} (ho : o = true ↔ Ans S) : Calls Try.prog 17 #[PV S y, BV S] W fun e w' => e = .returned (.tuple #[.bool o, .int .i64 0]) ∧ Below W.heap.size W w' := by
  cases o with
  | true =>
    obtain ⟨h1, h2, h3, h4, h5, h6⟩ := ho.1 rfl
    exact Ov_3 V h2 h1 h3 h4 h5 h6
  | false =>
    have hn : ¬ Ans S := fun q => by cases ho.2 q
    by_cases hz : S.lo < S.r ∧ S.w < S.hi
    · obtain ⟨k, k0, k1, k2, k3⟩ := first_of (fun j => Lf S j) S.n V.L.nn
      rcases k3 with rfl | ⟨k3, k4⟩
      · refine Ov_2 V k2 hz ?_
        by_cases r0 : Nr S 0
        · exact .inl r0
        by_cases r1 : Nr S 1
        · exact .inr (.inl r1)
        by_cases r2 : Nr S 2
        · exact .inr (.inr (.inl r2))
        by_cases r3 : Nr S 3
        · exact .inr (.inr (.inr r3))
        exact absurd ⟨hz, k2, r0, r1, r2, r3⟩ hn
      · exact Ov_1 V k0 k3 k2 k4
    · exact Ov_z V hz
def ovB : PC := pn ++ lt01 true ++ [(.eq (.at 9) (.lit 0), false)]
theorem ovB_tree : treeL Try.prog bxT [L0] [] ovB 300 30 17 AR = .ret (.tup [⟨false, [.bool (.lit false)]⟩, ⟨false, [i8 (.lit 1)]⟩]) := by kernel_rfl
theorem Ov_bad (L : Lies S y W) (hR : Rng S) (hc : Cv S) (c4 : S.lo < S.hi) (hb : bcode S ≠ 0) : Calls Try.prog 17 #[PV S y, BV S] W fun e w' => e = .returned (.tuple #[.bool false, .int .i64 1]) ∧ Below W.heap.size W w' := by
  have q0 : PC.Ok (EB0 S y (bcode S)) pn := rg_ok hR.n3 hR.n64
  have q1 : PC.Ok (EB0 S y (bcode S)) (lt01 true) := .cons' c4 .nil
  have q : PC.Ok (EB0 S y (bcode S)) ovB := (q0.app q1).app (.cons' hb .nil)
  have k0 : ConOkW Try.prog (EB0 S y (bcode S)) W (inT true) := .cons (fun _ w hb => in_yes (L.mono hb) hR) con1W
  have k1 : ConOkW Try.prog (EB0 S y (bcode S)) W (cvT true) := .cons (fun _ w hb => cv_yes (L.mono hb) hR hc) k0
  have k2 := ConOkW.cons (ρ := EB0 S y (bcode S)) (W0 := W) (f := 37) (args := [.one (.ssl L0)]) (v := .tup [⟨true, [i8 (.at 20), i8 (.at 21)]⟩, ⟨true, [i8 (.at 22), i8 (.at 23)]⟩, ⟨false, [i8 (.lit 0)]⟩]) (fun _ w hb => bounds_of (L.mono hb) hR hc.1) k1
  have k3 : ConOkW Try.prog (EB0 S y (bcode S)) W bxT := .cons (fun _ w _ => bc_any w) k2
  have hF : Fam (Bs Try.prog W bxT [L0]) [] (EB0 S y (bcode S)) := ⟨k3, ebl L⟩
  exact tree_funL hF q wide ovB_tree (by kernel_rfl) rfl (u := .tuple #[.bool false, .int .i64 1]) (All.ret rfl)
/-! A list of the call's own as a base. -/
theorem own_lies {ρ : EnvS} {α : Nat → Pl} {w : World} {k : Nat} {b : LB} {T : S0} (hb : lstAt ρ α w k b) (hk : b.ks.length = 2) (hn : b.n.den ρ = T.n) (hv : ∀ j : Nat, (j : Int) < T.n → valsB ρ α b j = [.int .i64 (T.X j), .int .i64 (T.Y j)]) :
    ∃ y', Lies T y' w ∧ (SCl.bls k b.n).den ρ α = .slice y'.p T.n.toNat y'.c := by
  have hnn := hb.nn
  rw [hn] at hnn
  cases hq : (α k).isNil with
  | true =>
    obtain ⟨h1, A, hA⟩ := hb.nil hq
    rw [hn] at h1
    exact ⟨⟨A, 0, 0, 0⟩, ⟨hnn, fun h => by omega, fun j h => by omega, fun j h => by omega⟩, by simp [SCl.den, hq, hA, h1]⟩
  | false =>
    obtain ⟨cs, hrow, _, _, hcs, _⟩ := hb.row hq
    have cell : ∀ (j c : Nat) (v : Value), (j : Int) < T.n → ([.int .i64 (T.X j), .int .i64 (T.Y j)] : List Value)[c]? = some v → w.cell? ⟨(α k).blk, 0 + j * 2 + c, none⟩ = some v := fun j c v hj h => by
      have e := hcs j c v (by rw [hn]; exact hj) (by rw [hv j hj]; exact h)
      rw [hk] at e
      unfold World.cell?
      simp only [hrow, Option.isSome_none, Bool.false_eq_true, if_false, Nat.zero_add, List.getElem?_toArray]
      exact e
    exact ⟨⟨some ⟨(α k).blk, 0, none⟩, (α k).blk, 0, (α k).ext⟩, ⟨hnn, fun _ => rfl, fun j h => cell j 0 _ h rfl, fun j h => cell j 1 _ h rfl⟩, by simp [SCl.den, hq, hn]⟩
/-! Moved: what stays. -/
theorem mv_nx (k : Int) : (mvS S dx dy dz).nx k = S.nx k := rfl
theorem crs_mv (ax ay bx by_ cx cy : Int) : crs (ax + dx) (ay + dy) (bx + dx) (by_ + dy) (cx + dx) (cy + dy) = crs ax ay bx by_ cx cy := by
  unfold crs
  rw [show bx + dx - (ax + dx) = bx - ax by omega, show by_ + dy - (ay + dy) = by_ - ay by omega, show cx + dx - (ax + dx) = cx - ax by omega, show cy + dy - (ay + dy) = cy - ay by omega]
theorem mv_cx (c : Int) : (mvS S dx dy dz).cx c = S.cx c + dx := by simp only [S0.cx, mvS]; repeat' split
                                                                    all_goals rfl
theorem mv_cy (c : Int) : (mvS S dx dy dz).cy c = S.cy c + dy := by simp only [S0.cy, mvS]; repeat' split
                                                                    all_goals rfl
theorem mv_sd (k c : Int) : (mvS S dx dy dz).sd k c = S.sd k c := by
  show crs (S.X k + dx) (S.Y k + dy) (S.X (S.nx k) + dx) (S.Y (S.nx k) + dy) ((mvS S dx dy dz).cx c) ((mvS S dx dy dz).cy c) = _
  rw [mv_cx, mv_cy, crs_mv]; rfl
theorem mv_se (k c : Int) : (mvS S dx dy dz).se k c = S.se k c := by
  show crs ((mvS S dx dy dz).cx c) ((mvS S dx dy dz).cy c) ((mvS S dx dy dz).cx ((c + 1) % 4)) ((mvS S dx dy dz).cy ((c + 1) % 4)) (S.X k + dx) (S.Y k + dy) = _
  rw [mv_cx, mv_cy, mv_cx, mv_cy, crs_mv]; rfl
theorem mv_bf0 (k : Int) : (mvS S dx dy dz).bf k 0 = S.bf k 0 + dx ∧ (mvS S dx dy dz).bf k 1 = S.bf k 1 + dy ∧ (mvS S dx dy dz).bf k 2 = S.bf k 2 + dx ∧ (mvS S dx dy dz).bf k 3 = S.bf k 3 + dy := by
  simp only [S0.bf, mvS]
  by_cases h : k ≤ 0 <;> simp [h] <;> exact ⟨rfl, rfl⟩
theorem mv_tn (k : Int) : (mvS S dx dy dz).tn k = S.tn k := by
  obtain ⟨h0, h1, h2, h3⟩ := mv_bf0 (S := S) (dx := dx) (dy := dy) (dz := dz) k
  show crs ((mvS S dx dy dz).bf k 0) ((mvS S dx dy dz).bf k 1) ((mvS S dx dy dz).bf k 2) ((mvS S dx dy dz).bf k 3) (S.X (S.nx k) + dx) (S.Y (S.nx k) + dy) = _
  rw [h0, h1, h2, h3, crs_mv]; rfl
theorem mv_rc : ∀ k : Nat, (mvS S dx dy dz).rc k = S.rc k
  | 0 => rfl
  | k + 1 => by
    obtain ⟨_, h1, _, h3⟩ := mv_bf0 (S := S) (dx := dx) (dy := dy) (dz := dz) k
    simp only [S0.rc]
    rw [mv_rc k, h1, h3]
    have e1 : (mvS S dx dy dz).Y k = S.Y k + dy := rfl
    have e2 : (mvS S dx dy dz).Y ((mvS S dx dy dz).nx k) = S.Y (S.nx k) + dy := rfl
    rw [e1, e2]
    congr 1
    by_cases c1 : S.bf k 1 < S.bf k 3
    · rw [if_pos c1, if_pos (by omega)]
    · rw [if_neg c1, if_neg (by omega)]
      by_cases c2 : S.Y k < S.Y (S.nx k)
      · rw [if_pos c2, if_pos (by omega)]
      · rw [if_neg c2, if_neg (by omega)]
theorem mv_cv (h : Cv S) : Cv (mvS S dx dy dz) := ⟨fun j h0 h1 => by rw [mv_tn]; exact h.1 j h0 h1, by rw [mv_rc]; exact h.2⟩
theorem mv_ans : Ans (mvS S dx dy dz) ↔ Ans S := by
  have hl : ∀ j, Lf (mvS S dx dy dz) j ↔ Lf S j := fun j => by unfold Lf; simp only [mv_sd]
  have hr : ∀ r, Nr (mvS S dx dy dz) r ↔ Nr S r := fun r => by unfold Nr; simp only [mv_se]; rfl
  unfold Ans
  simp only [hl, hr]
  have e : ((mvS S dx dy dz).lo < (mvS S dx dy dz).r ∧ (mvS S dx dy dz).w < (mvS S dx dy dz).hi) ↔ (S.lo < S.r ∧ S.w < S.hi) := by
    show (S.lo + dz < S.r + dz ∧ S.w + dz < S.hi + dz) ↔ _
    omega
  rw [e]
  exact Iff.rfl
end
end Go.Proofs.Ytmpadjlplgajcaa
