/- What is known of Move, Slice, Overlaps behind the law's beginning. -/
import Derived.Test.YtmpadjlplgajcaaPshB
namespace Go.Proofs.Ytmpadjlplgajcaa
open Go.RowKit
section
variable {S : S0} {y : Lay} {W : World} {dx dy dz z be k : Int}
theorem out_nil {ρ : EnvS} {α : Nat → Pl} {w w' : World} {v : SV} (hv : v.blcs = []) : OutOk ρ α w w' v := by
  have hn : ∀ p ∈ v.blcs, False := fun p hp => by rw [hv] at hp; cases hp
  exact ⟨fun p hp => (hn p hp).elim, fun p hp => (hn p hp).elim, fun p hp => (hn p hp).elim⟩
theorem em_pcn (hR : Rng S) : pcn.Ok (EM S y dx dy dz z be k) := pcn_ok (ρ := EM S y dx dy dz z be k) hR.n3 hR.n64 hR.lo hR.hi
theorem em_pcB (hR : Rng S) (c4 : S.lo < S.hi) : pcB.Ok (EM S y dx dy dz z be k) := by
  have q : PC.Ok (EM S y dx dy dz z be k) (lt01 true) := .cons' c4 .nil
  exact (em_pcn hR).app q
theorem em_by (hx : InM dx) (hy : InM dy) (hz : InM dz) : byR.Ok (EM S y dx dy dz z be k) := ((rg_ok hx.1 hx.2).app (rg_ok hy.1 hy.2)).app (rg_ok hz.1 hz.2)
theorem conPl_ok (hL : Lies S y W) (hR : Rng S) (hC : Cv S) : ConOkW Try.prog (EM S y dx dy dz z be k) W conPl :=
  .cons (fun _ w hb => in_yes (hL.mono hb) hR) (.cons (fun _ w hb => cv_yes (hL.mono hb) hR hC) .nil)
def mvT (S : S0) (dx dy dz : Int) : S0 := { mvS S dx dy dz with X := fun k => if 0 ≤ k ∧ k < S.n then S.X k + dx else 0, Y := fun k => if 0 ≤ k ∧ k < S.n then S.Y k + dy else 0 }
theorem mvT_rng (h0 : ∀ k, (k < 0 ∨ S.n ≤ k) → S.X k = 0 ∧ S.Y k = 0) (hx : InM dx) (hy : InM dy) (h : Rng (mvT S dx dy dz)) : Rng (mvS S dx dy dz) := by
  refine ⟨h.n3, h.n64, h.lo, h.hi, fun k => ?_, fun k => ?_⟩
  · by_cases c : 0 ≤ k ∧ k < S.n
    · have := h.X k; simp only [mvT, if_pos c] at this; exact this
    · show InM (S.X k + dx); rw [(h0 k (by omega)).1, Int.zero_add]; exact hx
  · by_cases c : 0 ≤ k ∧ k < S.n
    · have := h.Y k; simp only [mvT, if_pos c] at this; exact this
    · show InM (S.Y k + dy); rw [(h0 k (by omega)).2, Int.zero_add]; exact hy
theorem inM_says {b : Bool} (hb : b = true ↔ Rng (mvS S dx dy dz)) (hR : Rng S) (h0 : ∀ k, (k < 0 ∨ S.n ≤ k) → S.X k = 0 ∧ S.Y k = 0) (hx : InM dx) (hy : InM dy) : ConSays Try.prog (EM S y dx dy dz z be k) W 52 [mvI] (.one (.bool (.lit b))) := by
  intro α w hw hO
  have hl : lstAt (EM S y dx dy dz z be k) α w 0 ⟨60, 41, some (.at 8), .at 8, KS, []⟩ := hO.at_ 0 _ rfl
  have hv : ∀ j : Nat, (j : Int) < S.n → valsB (EM S y dx dy dz z be k) α ⟨60, 41, some (.at 8), .at 8, KS, []⟩ j = [.int .i64 (S.X j + dx), .int .i64 (S.Y j + dy)] := fun j hj => by
    show [Value.int .i64 (FM S dx dy 41 S.n j), Value.int .i64 (FM S dx dy 42 S.n j)] = _
    simp [FM, hj]
  have fin : ∀ {y' : Lay} {T : S0}, T.n = S.n → T.lo = S.lo + dz → T.hi = S.hi + dz → (SCl.bls 0 (.at 8)).den (EM S y dx dy dz z be k) α = .slice y'.p T.n.toNat y'.c → ([mvI].map (SV.den (EM S y dx dy dz z be k) α)).toArray = #[PV T y'] := fun {y' T} q1 q2 q3 e => by
    show #[Value.agg #[(SCl.bls 0 (.at 8)).den (EM S y dx dy dz z be k) α, .int .i64 (S.lo + dz), .int .i64 (S.hi + dz)]] = _
    rw [e, ← q2, ← q3]; rfl
  cases b with
  | true =>
    obtain ⟨y', hL', e⟩ := own_lies (T := mvS S dx dy dz) hl rfl rfl hv
    rw [fin (T := mvS S dx dy dz) rfl rfl rfl e]
    exact (in_yes hL' (hb.1 rfl)).mono fun _ _ ⟨e1, e2⟩ => ⟨α, e1, e2, out_nil rfl⟩
  | false =>
    have hno : ¬ Rng (mvT S dx dy dz) := fun q => by cases hb.2 (mvT_rng h0 hx hy q)
    obtain ⟨y', hL', e⟩ := own_lies (T := mvT S dx dy dz) hl rfl rfl fun j hj => by
      have c : 0 ≤ (j : Int) ∧ (j : Int) < S.n := ⟨by omega, hj⟩
      rw [hv j hj]; simp only [mvT, if_pos c]
    rw [fin (T := mvT S dx dy dz) rfl rfl rfl e]
    exact (in_no hL' hR.n3 hR.n64 (fun k hk => by
      have c : ¬ (0 ≤ k ∧ k < S.n) := fun q => by have hk : k < 0 ∨ S.n ≤ k := hk; omega
      simp only [mvT, if_neg c]; exact ⟨trivial, trivial⟩) hno).mono fun _ _ ⟨e1, e2⟩ => ⟨α, e1, e2, out_nil rfl⟩
theorem conMv_ok {b : Bool} (hb : b = true ↔ Rng (mvS S dx dy dz)) (hL : Lies S y W) (hR : Rng S) (hC : Cv S) (h0 : ∀ k, (k < 0 ∨ S.n ≤ k) → S.X k = 0 ∧ S.Y k = 0) (hx : InM dx) (hy : InM dy) : ConOkW Try.prog (EM S y dx dy dz z be k) W (conMv b) :=
  .cons (fun _ w hb => in_yes (hL.mono hb) hR) (.cons (fun _ w hb => cv_yes (hL.mono hb) hR hC) (.says (inM_says hb hR h0 hx hy) .nil))
theorem ax0_ok : AxOk (EM S y dx dy dz z be k) [(LBm (.lit 0), LBo)] := by
  intro q hq α j hj
  rw [List.mem_singleton.1 hq]
  show [Value.int .i64 (FM S dx dy 41 0 j), Value.int .i64 (FM S dx dy 42 0 j)] = [Value.int .i64 (FM S dx dy 0 j 0), Value.int .i64 (FM S dx dy 0 j 1)]
  have c : ¬ (j : Int) < 0 := by omega
  simp [FM, S0.F, c]
theorem ax_ok : AxOk (EM S y dx dy dz z be k) [(LBm (.add (.at 10) (.lit 1)), LBu)] := by
  intro q hq α j hj
  rw [List.mem_singleton.1 hq]
  show [Value.int .i64 (FM S dx dy 41 (k + 1) j), Value.int .i64 (FM S dx dy 42 (k + 1) j)] = if k = (j : Int) then [Value.int .i64 (FM S dx dy 0 k 0 + dx), Value.int .i64 (FM S dx dy 0 k 1 + dy)] else [Value.int .i64 (FM S dx dy 41 k j), Value.int .i64 (FM S dx dy 42 k j)]
  by_cases c : k = (j : Int)
  · subst c
    have c2 : (j : Int) < j + 1 := by omega
    simp [FM, S0.F, c2]
  · by_cases c1 : (j : Int) < k
    · have c2 : (j : Int) < k + 1 := by omega
      simp [FM, c, c1, c2]
    · have c2 : ¬ (j : Int) < k + 1 := by omega
      simp [FM, c, c1, c2]
theorem axE_ok : AxOk (EM S y dx dy dz z be S.n) axE := by
  intro q hq α j hj
  rw [List.mem_singleton.1 hq] at hj ⊢
  have hj : (j : Int) < S.n := hj
  show [Value.int .i64 (FM S dx dy 40 j 0), Value.int .i64 (FM S dx dy 40 j 1)] = [Value.int .i64 (FM S dx dy 41 S.n j), Value.int .i64 (FM S dx dy 42 S.n j)]
  simp [FM, hj]
theorem em_fam {b : Bool} (hb : b = true ↔ Rng (mvS S dx dy dz)) (hL : Lies S y W) (hR : Rng S) (hC : Cv S) (h0 : ∀ k, (k < 0 ∨ S.n ≤ k) → S.X k = 0 ∧ S.Y k = 0) (hx : InM dx) (hy : InM dy) (hz : InM dz) : Fam (Bs Try.prog W (conMv b) [L0]) [AM] (EM S y dx dy dz z be S.n) := by
  have q1 : PC.Ok (EM S y dx dy dz z be S.n) (kOut 10) := kOut_ok (i := 10) (Int.le_refl _)
  have q2 : PC.Ok (EM S y dx dy dz z be S.n) [(.eq (.at 8) (.at 10), true)] := .cons' rfl .nil
  refine ⟨⟨conMv_ok hb hL hR hC h0 hx hy, em_lols hL⟩, hL.nn, ⟨q1.app q2, ax0_ok⟩, fun j j0 j1 => ?_⟩
  have e : (EM S y dx dy dz z be S.n).upd AM.i j = EM S y dx dy dz z be j := EM_10
  rw [e]
  have j1 : j < S.n := j1
  have r1 : PC.Ok (EM S y dx dy dz z be j) (kIn 10) := kIn_ok (i := 10) j0 j1 hR.n64
  have r2 : PC.Ok (EM S y dx dy dz z be j) (inR (.at 10)) := inR_ok (k := .at 10) (hR.X j) (hR.Y j)
  exact ⟨⟨⟨_, List.mem_singleton.2 rfl, (((em_pcn hR).app (em_by hx hy hz)).app r1).app r2⟩, ax_ok⟩, ⟨conMv_ok hb hL hR hC h0 hx hy, em_lols hL⟩⟩
theorem move_says (hL : Lies S y W) (hR : Rng S) (hC : Cv S) (c4 : S.lo < S.hi) (h0 : ∀ k, (k < 0 ∨ S.n ≤ k) → S.X k = 0 ∧ S.Y k = 0) (hx : InM dx) (hy : InM dy) (hz : InM dz) (hM : Rng (mvS S dx dy dz)) : ConSays Try.prog (EM S y dx dy dz z be S.n) W 29 [prismV, byV] MV :=
  says_tree (em_fam (b := true) ⟨fun _ => hM, fun _ => rfl⟩ hL hR hC h0 hx hy hz) ((em_pcB hR c4).app (em_by hx hy hz)) wide axE_ok move_run (by kernel_rfl) rfl
def BADV : Value := .tuple #[.agg #[.slice none 0 0, .int .i64 0, .int .i64 0], .int .i64 6]
theorem move_bad (hL : Lies S y W) (hR : Rng S) (hC : Cv S) (c4 : S.lo < S.hi) (h0 : ∀ k, (k < 0 ∨ S.n ≤ k) → S.X k = 0 ∧ S.Y k = 0) (hn : ¬ (InM dx ∧ InM dy ∧ InM dz ∧ Rng (mvS S dx dy dz))) :
    Calls Try.prog 29 #[PV S y, .agg #[.int .i64 dx, .int .i64 dy, .int .i64 dz]] W fun e w' => e = .returned BADV ∧ Below W.heap.size W w' := by
  have hF : Fam (Bs Try.prog W conPl [L0]) [] (EM S y dx dy dz 0 0 S.n) := ⟨conPl_ok hL hR hC, em_lols hL⟩
  have hp : pcB.Ok (EM S y dx dy dz 0 0 S.n) := em_pcB hR c4
  by_cases a1 : dx < -1000000
  · have q : PC.Ok (EM S y dx dy dz 0 0 S.n) b1 := .cons' a1 .nil
    exact tree_funL hF (hp.app q) wide mb_1 (by kernel_rfl) rfl (u := BADV) (All.ret rfl)
  by_cases a2 : 1000000 < dx
  · have q : PC.Ok (EM S y dx dy dz 0 0 S.n) b2 := .cons' (Int.not_lt.1 a1) (.cons' a2 .nil)
    exact tree_funL hF (hp.app q) wide mb_2 (by kernel_rfl) rfl (u := BADV) (All.ret rfl)
  have hx : InM dx := ⟨by omega, by omega⟩
  have qx : PC.Ok (EM S y dx dy dz 0 0 S.n) (rg 24 (-1000000) 1000000) := rg_ok hx.1 hx.2
  by_cases a3 : dy < -1000000
  · have q : PC.Ok (EM S y dx dy dz 0 0 S.n) [(.lt (.at 25) (.lit (-1000000)), true)] := .cons' a3 .nil
    exact tree_funL hF (hp.app (qx.app q)) wide mb_3 (by kernel_rfl) rfl (u := BADV) (All.ret rfl)
  by_cases a4 : 1000000 < dy
  · have q : PC.Ok (EM S y dx dy dz 0 0 S.n) [(.lt (.at 25) (.lit (-1000000)), false), (.lt (.lit 1000000) (.at 25), true)] := .cons' (Int.not_lt.1 a3) (.cons' a4 .nil)
    exact tree_funL hF (hp.app (qx.app q)) wide mb_4 (by kernel_rfl) rfl (u := BADV) (All.ret rfl)
  have hy : InM dy := ⟨by omega, by omega⟩
  have qy : PC.Ok (EM S y dx dy dz 0 0 S.n) (rg 25 (-1000000) 1000000) := rg_ok hy.1 hy.2
  by_cases a5 : dz < -1000000
  · have q : PC.Ok (EM S y dx dy dz 0 0 S.n) [(.lt (.at 26) (.lit (-1000000)), true)] := .cons' a5 .nil
    exact tree_funL hF (hp.app ((qx.app qy).app q)) wide mb_5 (by kernel_rfl) rfl (u := BADV) (All.ret rfl)
  by_cases a6 : 1000000 < dz
  · have q : PC.Ok (EM S y dx dy dz 0 0 S.n) [(.lt (.at 26) (.lit (-1000000)), false), (.lt (.lit 1000000) (.at 26), true)] := .cons' (Int.not_lt.1 a5) (.cons' a6 .nil)
    exact tree_funL hF (hp.app ((qx.app qy).app q)) wide mb_6 (by kernel_rfl) rfl (u := BADV) (All.ret rfl)
  have hz : InM dz := ⟨by omega, by omega⟩
  have hM : ¬ Rng (mvS S dx dy dz) := fun q => hn ⟨hx, hy, hz, q⟩
  exact tree_funL (em_fam (b := false) (z := 0) (be := 0) ⟨fun q => (by cases q), fun q => absurd q hM⟩ hL hR hC h0 hx hy hz) ((em_pcB hR c4).app (em_by hx hy hz)) wide move_no (by kernel_rfl) rfl (u := BADV) (All.ret rfl)
theorem slLo_says (hL : Lies S y W) (hR : Rng S) (hC : Cv S) (c4 : S.lo < S.hi) (z1 : S.lo < z) : ConSays Try.prog (EM S y dx dy dz z be S.n) W 30 [prismV, .one (i8 (.at 0)), .one (i8 (.at 27))] slLo := by
  have hF : Fam (Bs Try.prog W conPl [L0]) [] (EM S y dx dy dz z be S.n) := ⟨conPl_ok hL hR hC, em_lols hL⟩
  have q : PC.Ok (EM S y dx dy dz z be S.n) [(.le (.at 27) (.at 0), false), (.le (.mn (.at 27) (.at 1)) (.mx (.at 0) (.at 0)), false)] := .cons' z1 (.cons' (by
    show (if S.lo > S.lo then S.lo else S.lo) < (if S.hi < z then S.hi else z)
    repeat' split
    all_goals omega) .nil)
  exact says_tree hF ((em_pcB hR c4).app q) wide .nil slLo_run (by kernel_rfl) rfl
theorem slHi_says (hL : Lies S y W) (hR : Rng S) (hC : Cv S) (c4 : S.lo < S.hi) (z1 : z < S.hi) : ConSays Try.prog (EM S y dx dy dz z be S.n) W 30 [prismV, .one (i8 (.at 27)), .one (i8 (.at 1))] slHi := by
  have hF : Fam (Bs Try.prog W conPl [L0]) [] (EM S y dx dy dz z be S.n) := ⟨conPl_ok hL hR hC, em_lols hL⟩
  have q : PC.Ok (EM S y dx dy dz z be S.n) [(.le (.at 1) (.at 27), false), (.le (.mn (.at 1) (.at 1)) (.mx (.at 27) (.at 0)), false)] := .cons' z1 (.cons' (by
    show (if S.lo > z then S.lo else z) < (if S.hi < S.hi then S.hi else S.hi)
    repeat' split
    all_goals omega) .nil)
  exact says_tree hF ((em_pcB hR c4).app q) wide .nil slHi_run (by kernel_rfl) rfl
end
end Go.Proofs.Ytmpadjlplgajcaa
