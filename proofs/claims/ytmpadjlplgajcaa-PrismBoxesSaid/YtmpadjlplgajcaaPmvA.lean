/- Move, as the reference does it; a box that isn't valid. -/
import Derived.Test.YtmpadjlplgajcaaPshC
import Derived.Test.YtmpadjlplgajcaaPckC
namespace Go.Proofs.Ytmpadjlplgajcaa
open Go.RowKit
section
variable {S : S0} {y : Lay} {W : World} {dx dy dz be k : Int} {z : Int × Int × Int × Int}
def EV (S : S0) (y : Lay) (dx dy dz : Int) (z : Int × Int × Int × Int) (be k : Int) : EnvS := EP [S.lo, S.hi, S.u, S.v, S.w, S.p, S.q, S.r, S.n, be, k, z.2.2.1, z.2.2.2, 0, 0, 0, 0, 0, 0, 0, S.bd 0 S.n.toNat, S.bd 1 S.n.toNat, S.bd 2 S.n.toNat, S.bd 3 S.n.toNat, dx, dy, dz, 0, z.1, z.2.1] (FM S dx dy) y
theorem EV_10 {k j : Int} : (EV S y dx dy dz z be k).upd 10 j = EV S y dx dy dz z be j := EP_upd (by simp)
theorem EV_11 {k j : Int} : (EV S y dx dy dz z be k).upd 11 j = EV S y dx dy dz (z.1, z.2.1, j, z.2.2.2) be k := EP_upd (by simp)
theorem EV_12 {k j : Int} : (EV S y dx dy dz z be k).upd 12 j = EV S y dx dy dz (z.1, z.2.1, z.2.2.1, j) be k := EP_upd (by simp)
theorem ev_lok (h : Lies S y W) {k : Int} : LOk (EV S y dx dy dz z be k) W L0 := by
  refine ⟨h.nn, fun q => h.pt q, fun j c x hj hk => ?_⟩
  have hj' : (j : Int) < S.n := hj
  match c, hk with
  | 0, hk => cases hk; exact h.cx j hj'
  | 1, hk => cases hk; exact h.cy j hj'
  | c + 2, hk => simp [L0] at hk
theorem ev_lols (h : Lies S y W) {k : Int} : ∀ L ∈ [L0], LOk (EV S y dx dy dz z be k) W L := fun L hL => by rw [List.mem_singleton.1 hL]; exact ev_lok h
theorem ev_lk : Lk S (EV S y dx dy dz z be k) := ⟨fun _ => rfl, fun _ => rfl, rfl, rfl, rfl⟩
theorem ev_pcn (hR : Rng S) : pcn.Ok (EV S y dx dy dz z be k) := pcn_ok (ρ := EV S y dx dy dz z be k) hR.n3 hR.n64 hR.lo hR.hi
theorem ev_pcB (hR : Rng S) (c4 : S.lo < S.hi) : pcB.Ok (EV S y dx dy dz z be k) := by
  have q : PC.Ok (EV S y dx dy dz z be k) (lt01 true) := .cons' c4 .nil
  exact (ev_pcn hR).app q
theorem ev_by (hx : InM dx) (hy : InM dy) (hz : InM dz) : byR.Ok (EV S y dx dy dz z be k) := ((rg_ok hx.1 hx.2).app (rg_ok hy.1 hy.2)).app (rg_ok hz.1 hz.2)
theorem conPv_ok (hL : Lies S y W) (hR : Rng S) (hC : Cv S) : ConOkW Try.prog (EV S y dx dy dz z be k) W conPl :=
  .cons (fun _ w hb => in_yes (hL.mono hb) hR) (.cons (fun _ w hb => cv_yes (hL.mono hb) hR hC) .nil)
theorem inV_says {b : Bool} (hb : b = true ↔ Rng (mvS S dx dy dz)) (hR : Rng S) (h0 : ∀ k, (k < 0 ∨ S.n ≤ k) → S.X k = 0 ∧ S.Y k = 0) (hx : InM dx) (hy : InM dy) : ConSays Try.prog (EV S y dx dy dz z be k) W 52 [mvI] (.one (.bool (.lit b))) := by
  intro α w hw hO
  have hl : lstAt (EV S y dx dy dz z be k) α w 0 ⟨60, 41, some (.at 8), .at 8, KS, []⟩ := hO.at_ 0 _ rfl
  have hv : ∀ j : Nat, (j : Int) < S.n → valsB (EV S y dx dy dz z be k) α ⟨60, 41, some (.at 8), .at 8, KS, []⟩ j = [.int .i64 (S.X j + dx), .int .i64 (S.Y j + dy)] := fun j hj => by
    show [Value.int .i64 (FM S dx dy 41 S.n j), Value.int .i64 (FM S dx dy 42 S.n j)] = _
    simp [FM, hj]
  have fin : ∀ {y' : Lay} {T : S0}, T.n = S.n → T.lo = S.lo + dz → T.hi = S.hi + dz → (SCl.bls 0 (.at 8)).den (EV S y dx dy dz z be k) α = .slice y'.p T.n.toNat y'.c → ([mvI].map (SV.den (EV S y dx dy dz z be k) α)).toArray = #[PV T y'] := fun {y' T} q1 q2 q3 e => by
    show #[Value.agg #[(SCl.bls 0 (.at 8)).den (EV S y dx dy dz z be k) α, .int .i64 (S.lo + dz), .int .i64 (S.hi + dz)]] = _
    rw [e, ← q2, ← q3]; rfl
  cases b with
  | true =>
    obtain ⟨y', hL', e⟩ := own_lies (T := mvS S dx dy dz) hl rfl rfl hv
    rw [fin (T := mvS S dx dy dz) rfl rfl rfl e]
    exact (in_yes hL' (hb.1 rfl)).mono fun _ _ ⟨e1, e2⟩ => ⟨α, e1, e2, out_nil rfl⟩
  | false =>
    have hno : ¬ Rng (mvT S dx dy dz) := fun q => by cases hb.2 (mvT_rng h0 hx hy q)
    obtain ⟨y', hL', e⟩ := own_lies (T := mvT S dx dy dz) hl rfl rfl fun j hj => by
      have c : 0 ≤ (j : Int) ∧ (j : Int) < S.n := ⟨by omega, hj⟩
      rw [hv j hj]; simp only [mvT, if_pos c]
    rw [fin (T := mvT S dx dy dz) rfl rfl rfl e]
    exact (in_no hL' hR.n3 hR.n64 (fun k hk => by
      have c : ¬ (0 ≤ k ∧ k < S.n) := fun q => by have hk : k < 0 ∨ S.n ≤ k := hk; omega
      simp only [mvT, if_neg c]; exact ⟨trivial, trivial⟩) hno).mono fun _ _ ⟨e1, e2⟩ => ⟨α, e1, e2, out_nil rfl⟩
theorem conMw_ok {b : Bool} (hb : b = true ↔ Rng (mvS S dx dy dz)) (hL : Lies S y W) (hR : Rng S) (hC : Cv S) (h0 : ∀ k, (k < 0 ∨ S.n ≤ k) → S.X k = 0 ∧ S.Y k = 0) (hx : InM dx) (hy : InM dy) : ConOkW Try.prog (EV S y dx dy dz z be k) W (conMv b) :=
  .cons (fun _ w hb => in_yes (hL.mono hb) hR) (.cons (fun _ w hb => cv_yes (hL.mono hb) hR hC) (.says (inV_says hb hR h0 hx hy) .nil))
theorem av0_ok : AxOk (EV S y dx dy dz z be k) [(LBm (.lit 0), LBo)] := by
  intro q hq α j hj
  rw [List.mem_singleton.1 hq]
  show [Value.int .i64 (FM S dx dy 41 0 j), Value.int .i64 (FM S dx dy 42 0 j)] = [Value.int .i64 (FM S dx dy 0 j 0), Value.int .i64 (FM S dx dy 0 j 1)]
  have c : ¬ (j : Int) < 0 := by omega
  simp [FM, S0.F, c]
theorem av_ok : AxOk (EV S y dx dy dz z be k) [(LBm (.add (.at 10) (.lit 1)), LBu)] := by
  intro q hq α j hj
  rw [List.mem_singleton.1 hq]
  show [Value.int .i64 (FM S dx dy 41 (k + 1) j), Value.int .i64 (FM S dx dy 42 (k + 1) j)] = if k = (j : Int) then [Value.int .i64 (FM S dx dy 0 k 0 + dx), Value.int .i64 (FM S dx dy 0 k 1 + dy)] else [Value.int .i64 (FM S dx dy 41 k j), Value.int .i64 (FM S dx dy 42 k j)]
  by_cases c : k = (j : Int)
  · subst c
    have c2 : (j : Int) < j + 1 := by omega
    simp [FM, S0.F, c2]
  · by_cases c1 : (j : Int) < k
    · have c2 : (j : Int) < k + 1 := by omega
      simp [FM, c, c1, c2]
    · have c2 : ¬ (j : Int) < k + 1 := by omega
      simp [FM, c, c1, c2]
theorem avE_ok : AxOk (EV S y dx dy dz z be S.n) axE := by
  intro q hq α j hj
  rw [List.mem_singleton.1 hq] at hj ⊢
  have hj : (j : Int) < S.n := hj
  show [Value.int .i64 (FM S dx dy 40 j 0), Value.int .i64 (FM S dx dy 40 j 1)] = [Value.int .i64 (FM S dx dy 41 S.n j), Value.int .i64 (FM S dx dy 42 S.n j)]
  simp [FM, hj]
theorem ev_fam {b : Bool} (hb : b = true ↔ Rng (mvS S dx dy dz)) (hL : Lies S y W) (hR : Rng S) (hC : Cv S) (h0 : ∀ k, (k < 0 ∨ S.n ≤ k) → S.X k = 0 ∧ S.Y k = 0) (hx : InM dx) (hy : InM dy) (hz : InM dz) : Fam (Bs Try.prog W (conMv b) [L0]) [AM] (EV S y dx dy dz z be S.n) := by
  have q1 : PC.Ok (EV S y dx dy dz z be S.n) (kOut 10) := kOut_ok (i := 10) (Int.le_refl _)
  have q2 : PC.Ok (EV S y dx dy dz z be S.n) [(.eq (.at 8) (.at 10), true)] := .cons' rfl .nil
  refine ⟨⟨conMw_ok hb hL hR hC h0 hx hy, ev_lols hL⟩, hL.nn, ⟨q1.app q2, av0_ok⟩, fun j j0 j1 => ?_⟩
  have e : (EV S y dx dy dz z be S.n).upd AM.i j = EV S y dx dy dz z be j := EV_10
  rw [e]
  have j1 : j < S.n := j1
  have r1 : PC.Ok (EV S y dx dy dz z be j) (kIn 10) := kIn_ok (i := 10) j0 j1 hR.n64
  have r2 : PC.Ok (EV S y dx dy dz z be j) (inR (.at 10)) := inR_ok (k := .at 10) (hR.X j) (hR.Y j)
  exact ⟨⟨⟨_, List.mem_singleton.2 rfl, (((ev_pcn hR).app (ev_by hx hy hz)).app r1).app r2⟩, av_ok⟩, ⟨conMw_ok hb hL hR hC h0 hx hy, ev_lols hL⟩⟩
theorem moveV_says (hL : Lies S y W) (hR : Rng S) (hC : Cv S) (c4 : S.lo < S.hi) (h0 : ∀ k, (k < 0 ∨ S.n ≤ k) → S.X k = 0 ∧ S.Y k = 0) (hx : InM dx) (hy : InM dy) (hz : InM dz) (hM : Rng (mvS S dx dy dz)) : ConSays Try.prog (EV S y dx dy dz z be S.n) W 29 [prismV, byV] MV :=
  says_tree (ev_fam (b := true) ⟨fun _ => hM, fun _ => rfl⟩ hL hR hC h0 hx hy hz) ((ev_pcB hR c4).app (ev_by hx hy hz)) wide avE_ok move_run (by kernel_rfl) rfl

/-! The reference's Move. -/
def exE : IE := .add (.ap 0 (.at 10) (.lit 0)) (.at 24)
def eyE : IE := .add (.ap 0 (.at 10) (.lit 1)) (.at 25)
def rM : PC := pcn ++ byR ++ inX (.at 10) ++ inR (.at 10) ++ rngE exE (-1000000) 1000000 ++ rngE eyE (-1000000) 1000000 ++ [(.eq (.ap 40 (.at 10) (.lit 0)) exE, true), (.eq (.ap 40 (.at 10) (.lit 1)) eyE, true)]
def LBg : LB := ⟨60, 40, none, .at 10, KS, []⟩
def ARM (ex : PC) : LAnn := ⟨826172, 10, [(7, .one (i8 (.at 10))), (6, .one (.ptr 3 0)), (5, .one (i8 (.lit 0))), (4, .one (.ptr 2 0)), (3, .one (.ptr 1 0)), (2, .one (.ptr 0 0))], [(3, ⟨25, .bls 4 (.at 10) :: zsM, 0, false, []⟩)], [0, 1, 2], ex, [rM], 5, [(4, LBg)], [], []⟩
def exY : PC := kOut 10 ++ [(.eq (.at 8) (.at 10), true)]
def loM : IE := .add (.at 0) (.at 26)
def hiM : IE := .add (.at 1) (.at 26)
def zR : PC := rngE loM (-1000000) 1000000 ++ rngE hiM (-1000000) 1000000
def dX1 : PC := [(.lt exE (.lit (-1000000)), true)]
def dX2 : PC := [(.lt exE (.lit (-1000000)), false), (.lt (.lit 1000000) exE, true)]
def dY1 : PC := rngE exE (-1000000) 1000000 ++ [(.lt eyE (.lit (-1000000)), true)]
def dY2 : PC := rngE exE (-1000000) 1000000 ++ [(.lt eyE (.lit (-1000000)), false), (.lt (.lit 1000000) eyE, true)]
def dZ1 : PC := [(.lt loM (.lit (-1000000)), true)]
def dZ2 : PC := [(.lt loM (.lit (-1000000)), false), (.lt (.lit 1000000) loM, true)]
def dZ3 : PC := rngE loM (-1000000) 1000000 ++ [(.lt hiM (.lit (-1000000)), true)]
def dZ4 : PC := rngE loM (-1000000) 1000000 ++ [(.lt hiM (.lit (-1000000)), false), (.lt (.lit 1000000) hiM, true)]
def kX : PC := inX (.at 10) ++ inR (.at 10)
theorem rm_run : ((callR Try.prog [] [L0] 300 25 [ARM exY]).run (.fn 31) [prismV, byV] [] 0 (pcn ++ byR ++ zR)).all (leafOk [] MV) = true := by kernel_rfl
theorem rm_1 : treeL Try.prog [] [L0] [ARM (kX ++ dX1)] (pcn ++ byR) 300 25 31 [prismV, byV] = .ret BADS := by kernel_rfl
theorem rm_2 : treeL Try.prog [] [L0] [ARM (kX ++ dX2)] (pcn ++ byR) 300 25 31 [prismV, byV] = .ret BADS := by kernel_rfl
theorem rm_3 : treeL Try.prog [] [L0] [ARM (kX ++ dY1)] (pcn ++ byR) 300 25 31 [prismV, byV] = .ret BADS := by kernel_rfl
theorem rm_4 : treeL Try.prog [] [L0] [ARM (kX ++ dY2)] (pcn ++ byR) 300 25 31 [prismV, byV] = .ret BADS := by kernel_rfl
theorem rm_5 : treeL Try.prog [] [L0] [ARM (exY)] (pcn ++ byR ++ dZ1) 300 25 31 [prismV, byV] = .ret BADS := by kernel_rfl
theorem rm_6 : treeL Try.prog [] [L0] [ARM (exY)] (pcn ++ byR ++ dZ2) 300 25 31 [prismV, byV] = .ret BADS := by kernel_rfl
theorem rm_7 : treeL Try.prog [] [L0] [ARM (exY)] (pcn ++ byR ++ dZ3) 300 25 31 [prismV, byV] = .ret BADS := by kernel_rfl
theorem rm_8 : treeL Try.prog [] [L0] [ARM (exY)] (pcn ++ byR ++ dZ4) 300 25 31 [prismV, byV] = .ret BADS := by kernel_rfl
theorem rb_1 : treeL Try.prog [] [L0] [] (pcn ++ b1) 300 25 31 [prismV, byV] = .ret BADS := by kernel_rfl
theorem rb_2 : treeL Try.prog [] [L0] [] (pcn ++ b2) 300 25 31 [prismV, byV] = .ret BADS := by kernel_rfl
theorem rb_3 : treeL Try.prog [] [L0] [] (pcn ++ b3) 300 25 31 [prismV, byV] = .ret BADS := by kernel_rfl
theorem rb_4 : treeL Try.prog [] [L0] [] (pcn ++ b4) 300 25 31 [prismV, byV] = .ret BADS := by kernel_rfl
theorem rb_5 : treeL Try.prog [] [L0] [] (pcn ++ b5) 300 25 31 [prismV, byV] = .ret BADS := by kernel_rfl
theorem rb_6 : treeL Try.prog [] [L0] [] (pcn ++ b6) 300 25 31 [prismV, byV] = .ret BADS := by kernel_rfl
theorem famM {ex : PC} (hL : Lies S y W) (hR : Rng S) (hx : InM dx) (hy : InM dy) (hz : InM dz) {k : Int} (k0 : 0 ≤ k) (kn : k ≤ S.n) (hr : ∀ j, 0 ≤ j → j < k → InM (S.X j + dx) ∧ InM (S.Y j + dy)) (hex : ex.Ok (EV S y dx dy dz z be k)) : Fam (Bs Try.prog W [] [L0]) [ARM ex] (EV S y dx dy dz z be k) := by
  refine ⟨⟨.nil, ev_lols hL⟩, k0, ⟨hex, .nil⟩, fun j h0 h1 => ?_⟩
  have e : (EV S y dx dy dz z be k).upd (ARM ex).i j = EV S y dx dy dz z be j := EV_10
  rw [e]
  have h1 : j < k := h1
  have q : PC.Ok (EV S y dx dy dz z be j) [(.eq (.ap 40 (.at 10) (.lit 0)) exE, true), (.eq (.ap 40 (.at 10) (.lit 1)) eyE, true)] := .cons' (show S.X j + dx = S.X j + dx from rfl) (.cons' (show S.Y j + dy = S.Y j + dy from rfl) .nil)
  have hq := hr j h0 h1
  have q1 : PC.Ok (EV S y dx dy dz z be j) (rngE exE (-1000000) 1000000) := rngE_ok (e := exE) hq.1.1 hq.1.2
  have q2 : PC.Ok (EV S y dx dy dz z be j) (rngE eyE (-1000000) 1000000) := rngE_ok (e := eyE) hq.2.1 hq.2.2
  exact ⟨⟨⟨_, List.mem_singleton.2 rfl, ((((((ev_pcn hR).app (ev_by hx hy hz)).app (ev_lk.inX hR (e := .at 10) h0 (show j < S.n by omega))).app (ev_lk.inR hR _)).app q1).app q2).app q⟩, .nil⟩, ⟨.nil, ev_lols hL⟩⟩
theorem exY_ok : exY.Ok (EV S y dx dy dz z be S.n) := (kOut_ok (i := 10) (Int.le_refl _)).app (.cons' (show S.n = S.n from rfl) .nil)
theorem mv_all (hM : Rng (mvS S dx dy dz)) : ∀ j, 0 ≤ j → j < S.n → InM (S.X j + dx) ∧ InM (S.Y j + dy) := fun j _ _ => ⟨hM.X j, hM.Y j⟩
theorem moveR_says (hL : Lies S y W) (hR : Rng S) (hx : InM dx) (hy : InM dy) (hz : InM dz) (hM : Rng (mvS S dx dy dz)) : ConSays Try.prog (EV S y dx dy dz z be S.n) W 31 [prismV, byV] MV := by
  have q1 : PC.Ok (EV S y dx dy dz z be S.n) (rngE loM (-1000000) 1000000) := rngE_ok (e := loM) hM.lo.1 hM.lo.2
  have q2 : PC.Ok (EV S y dx dy dz z be S.n) (rngE hiM (-1000000) 1000000) := rngE_ok (e := hiM) hM.hi.1 hM.hi.2
  have q : PC.Ok (EV S y dx dy dz z be S.n) zR := q1.app q2
  exact says_tree (famM hL hR hx hy hz hL.nn (Int.le_refl _) (mv_all hM) exY_ok) (((ev_pcn hR).app (ev_by hx hy hz)).app q) wide .nil rm_run (by kernel_rfl) rfl
theorem moveR_bad (hL : Lies S y W) (hR : Rng S) (h0 : ∀ k, (k < 0 ∨ S.n ≤ k) → S.X k = 0 ∧ S.Y k = 0) (hn : ¬ (InM dx ∧ InM dy ∧ InM dz ∧ Rng (mvS S dx dy dz))) :
    Calls Try.prog 31 #[PV S y, .agg #[.int .i64 dx, .int .i64 dy, .int .i64 dz]] W fun e w' => e = .returned BADV ∧ Below W.heap.size W w' := by
  have hF : Fam (Bs Try.prog W [] [L0]) [] (EV S y dx dy dz (0, 0, 0, 0) 0 S.n) := ⟨.nil, ev_lols hL⟩
  have hp : ∀ {k}, pcn.Ok (EV S y dx dy dz (0, 0, 0, 0) 0 k) := fun {k} => ev_pcn hR
  by_cases a1 : dx < -1000000
  · have q : PC.Ok (EV S y dx dy dz (0, 0, 0, 0) 0 S.n) [(.lt (.at 24) (.lit (-1000000)), true)] := .cons' a1 .nil
    exact tree_funL hF (hp.app q) wide rb_1 (by kernel_rfl) rfl (u := BADV) (All.ret rfl)
  by_cases a2 : 1000000 < dx
  · have q : PC.Ok (EV S y dx dy dz (0, 0, 0, 0) 0 S.n) [(.lt (.at 24) (.lit (-1000000)), false), (.lt (.lit 1000000) (.at 24), true)] := .cons' (Int.not_lt.1 a1) (.cons' a2 .nil)
    exact tree_funL hF (hp.app q) wide rb_2 (by kernel_rfl) rfl (u := BADV) (All.ret rfl)
  have hx : InM dx := ⟨by omega, by omega⟩
  have qx : PC.Ok (EV S y dx dy dz (0, 0, 0, 0) 0 S.n) (rg 24 (-1000000) 1000000) := rg_ok hx.1 hx.2
  by_cases a3 : dy < -1000000
  · have q : PC.Ok (EV S y dx dy dz (0, 0, 0, 0) 0 S.n) [(.lt (.at 25) (.lit (-1000000)), true)] := .cons' a3 .nil
    exact tree_funL hF (hp.app (qx.app q)) wide rb_3 (by kernel_rfl) rfl (u := BADV) (All.ret rfl)
  by_cases a4 : 1000000 < dy
  · have q : PC.Ok (EV S y dx dy dz (0, 0, 0, 0) 0 S.n) [(.lt (.at 25) (.lit (-1000000)), false), (.lt (.lit 1000000) (.at 25), true)] := .cons' (Int.not_lt.1 a3) (.cons' a4 .nil)
    exact tree_funL hF (hp.app (qx.app q)) wide rb_4 (by kernel_rfl) rfl (u := BADV) (All.ret rfl)
  have hy : InM dy := ⟨by omega, by omega⟩
  have qy : PC.Ok (EV S y dx dy dz (0, 0, 0, 0) 0 S.n) (rg 25 (-1000000) 1000000) := rg_ok hy.1 hy.2
  by_cases a5 : dz < -1000000
  · have q : PC.Ok (EV S y dx dy dz (0, 0, 0, 0) 0 S.n) [(.lt (.at 26) (.lit (-1000000)), true)] := .cons' a5 .nil
    exact tree_funL hF (hp.app ((qx.app qy).app q)) wide rb_5 (by kernel_rfl) rfl (u := BADV) (All.ret rfl)
  by_cases a6 : 1000000 < dz
  · have q : PC.Ok (EV S y dx dy dz (0, 0, 0, 0) 0 S.n) [(.lt (.at 26) (.lit (-1000000)), false), (.lt (.lit 1000000) (.at 26), true)] := .cons' (Int.not_lt.1 a5) (.cons' a6 .nil)
    exact tree_funL hF (hp.app ((qx.app qy).app q)) wide rb_6 (by kernel_rfl) rfl (u := BADV) (All.ret rfl)
  have hz : InM dz := ⟨by omega, by omega⟩
  have qz : PC.Ok (EV S y dx dy dz (0, 0, 0, 0) 0 S.n) (rg 26 (-1000000) 1000000) := rg_ok hz.1 hz.2
  have hb : ∀ {k}, PC.Ok (EV S y dx dy dz (0, 0, 0, 0) 0 k) (pcn ++ byR) := fun {k} => (ev_pcn hR).app (ev_by hx hy hz)
  obtain ⟨k, k0, k1, k2, k3⟩ := first_of (fun j => InM (S.X j + dx) ∧ InM (S.Y j + dy)) S.n hL.nn
  rcases k3 with rfl | ⟨k3, k4⟩
  · have fam := famM (z := (0, 0, 0, 0)) (be := 0) hL hR hx hy hz hL.nn (Int.le_refl _) k2 exY_ok
    by_cases c1 : S.lo + dz < -1000000
    · have q : PC.Ok (EV S y dx dy dz (0, 0, 0, 0) 0 S.n) dZ1 := .cons' c1 .nil
      exact tree_funL fam (hb.app q) wide rm_5 (by kernel_rfl) rfl (u := BADV) (All.ret rfl)
    have c1 := Int.not_lt.1 c1
    by_cases c2 : 1000000 < S.lo + dz
    · have q : PC.Ok (EV S y dx dy dz (0, 0, 0, 0) 0 S.n) dZ2 := .cons' c1 (.cons' c2 .nil)
      exact tree_funL fam (hb.app q) wide rm_6 (by kernel_rfl) rfl (u := BADV) (All.ret rfl)
    have c2 := Int.not_lt.1 c2
    have ql : PC.Ok (EV S y dx dy dz (0, 0, 0, 0) 0 S.n) (rngE loM (-1000000) 1000000) := rngE_ok (e := loM) c1 c2
    by_cases c3 : S.hi + dz < -1000000
    · have q : PC.Ok (EV S y dx dy dz (0, 0, 0, 0) 0 S.n) dZ3 := ql.app (.cons' c3 .nil)
      exact tree_funL fam (hb.app q) wide rm_7 (by kernel_rfl) rfl (u := BADV) (All.ret rfl)
    have c3 := Int.not_lt.1 c3
    by_cases c4 : 1000000 < S.hi + dz
    · have q : PC.Ok (EV S y dx dy dz (0, 0, 0, 0) 0 S.n) dZ4 := ql.app (.cons' c3 (.cons' c4 .nil))
      exact tree_funL fam (hb.app q) wide rm_8 (by kernel_rfl) rfl (u := BADV) (All.ret rfl)
    have c4 := Int.not_lt.1 c4
    refine absurd ⟨hx, hy, hz, hR.n3, hR.n64, ⟨c1, c2⟩, ⟨c3, c4⟩, fun j => ?_, fun j => ?_⟩ hn
    · show InM (S.X j + dx)
      by_cases c : 0 ≤ j ∧ j < S.n
      · exact (k2 j c.1 c.2).1
      · rw [(h0 j (by omega)).1, Int.zero_add]; exact hx
    · show InM (S.Y j + dy)
      by_cases c : 0 ≤ j ∧ j < S.n
      · exact (k2 j c.1 c.2).2
      · rw [(h0 j (by omega)).2, Int.zero_add]; exact hy
  · have hk : PC.Ok (EV S y dx dy dz (0, 0, 0, 0) 0 k) kX := (ev_lk.inX hR (e := .at 10) k0 k3).app (ev_lk.inR hR _)
    have fam : ∀ {ex : PC}, ex.Ok (EV S y dx dy dz (0, 0, 0, 0) 0 k) → Fam (Bs Try.prog W [] [L0]) [ARM (kX ++ ex)] (EV S y dx dy dz (0, 0, 0, 0) 0 k) := fun {ex} he => famM hL hR hx hy hz k0 k1 k2 (hk.app he)
    by_cases d1 : S.X k + dx < -1000000
    · have q : PC.Ok (EV S y dx dy dz (0, 0, 0, 0) 0 k) dX1 := .cons' d1 .nil
      exact tree_funL (fam q) hb wide rm_1 (by kernel_rfl) rfl (u := BADV) (All.ret rfl)
    have d1 := Int.not_lt.1 d1
    by_cases d2 : 1000000 < S.X k + dx
    · have q : PC.Ok (EV S y dx dy dz (0, 0, 0, 0) 0 k) dX2 := .cons' d1 (.cons' d2 .nil)
      exact tree_funL (fam q) hb wide rm_2 (by kernel_rfl) rfl (u := BADV) (All.ret rfl)
    have d2 := Int.not_lt.1 d2
    have qx : PC.Ok (EV S y dx dy dz (0, 0, 0, 0) 0 k) (rngE exE (-1000000) 1000000) := rngE_ok (e := exE) d1 d2
    by_cases d3 : S.Y k + dy < -1000000
    · have q : PC.Ok (EV S y dx dy dz (0, 0, 0, 0) 0 k) dY1 := qx.app (.cons' d3 .nil)
      exact tree_funL (fam q) hb wide rm_3 (by kernel_rfl) rfl (u := BADV) (All.ret rfl)
    have d3 := Int.not_lt.1 d3
    by_cases d4 : 1000000 < S.Y k + dy
    · have q : PC.Ok (EV S y dx dy dz (0, 0, 0, 0) 0 k) dY2 := qx.app (.cons' d3 (.cons' d4 .nil))
      exact tree_funL (fam q) hb wide rm_4 (by kernel_rfl) rfl (u := BADV) (All.ret rfl)
    · exact absurd ⟨⟨d1, d2⟩, ⟨d3, Int.not_lt.1 d4⟩⟩ k4
end
end Go.Proofs.Ytmpadjlplgajcaa
