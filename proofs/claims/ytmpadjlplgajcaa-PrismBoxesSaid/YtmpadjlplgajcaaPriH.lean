/- PrismOverlaps: the walk. -/
import Derived.Test.YtmpadjlplgajcaaPriG
namespace Go.Proofs.Ytmpadjlplgajcaa
open Go.RowKit
section
variable {S : S0} {y : Lay} {W : World}
/-! No box -/
def bcT : T SV := .br (.lt (.mn (.at 0) (.at 3)) (.lit (-1000000))) (.ret (.one (i8 (.lit 6)))) (.br (.lt (.lit 1000000) (.mx (.at 0) (.at 3))) (.ret (.one (i8 (.lit 6)))) (.br (.lt (.mn (.at 1) (.at 4)) (.lit (-1000000))) (.ret (.one (i8 (.lit 6)))) (.br (.lt (.lit 1000000) (.mx (.at 1) (.at 4))) (.ret (.one (i8 (.lit 6))))
  (.br (.lt (.mn (.at 2) (.at 5)) (.lit (-1000000))) (.ret (.one (i8 (.lit 6)))) (.br (.lt (.lit 1000000) (.mx (.at 2) (.at 5))) (.ret (.one (i8 (.lit 6)))) (.br (.le (.at 3) (.at 0)) (.ret (.one (i8 (.lit 1)))) (.br (.le (.at 4) (.at 1)) (.ret (.one (i8 (.lit 1)))) (.br (.le (.at 5) (.at 2)) (.ret (.one (i8 (.lit 1)))) (.ret (.one (i8 (.lit 0))))))))))))
theorem bcT_tree : tree Try.prog [] [] 300 20 49 [.agg (iv 0 6)] = bcT := by kernel_rfl
/-- The error of a box. -/
def bcode (S : S0) : Int := if mnI S.u S.p < -1000000 then 6 else if 1000000 < mxI S.u S.p then 6 else if mnI S.v S.q < -1000000 then 6 else if 1000000 < mxI S.v S.q then 6 else if mnI S.w S.r < -1000000 then 6 else if 1000000 < mxI S.w S.r then 6 else if S.p ≤ S.u then 1 else if S.q ≤ S.v then 1 else if S.r ≤ S.w then 1 else 0
theorem bc_any (W : World) : Calls Try.prog 49 #[BV S] W fun e w' => e = .returned (.int .i64 (bcode S)) ∧ Below W.heap.size W w' := by
  have fin : ∀ v : Int, bcode S = v → (T.ret (.one (i8 (.lit v)))).All (envX [S.u, S.v, S.w, S.p, S.q, S.r] []) (· = .int .i64 (bcode S)) := fun v e => All.ret (by rw [e]; rfl)
  refine tree_fun (ρ := envX [S.u, S.v, S.w, S.p, S.q, S.r] []) .nil .nil wide bcT_tree (by kernel_rfl) rfl (u := .int .i64 (bcode S)) ?_ W
  refine All.br' (fun h0 => fin _ ?_) (fun h0 => ?_)
  · have h0 : mnI S.u S.p < -1000000 := h0; unfold bcode; rw [if_pos h0]
  refine All.br' (fun h1 => fin _ ?_) (fun h1 => ?_)
  · have h0 : -1000000 ≤ mnI S.u S.p := h0; have h1 : 1000000 < mxI S.u S.p := h1; unfold bcode; rw [if_neg (by omega), if_pos h1]
  refine All.br' (fun h2 => fin _ ?_) (fun h2 => ?_)
  · have h0 : -1000000 ≤ mnI S.u S.p := h0; have h1 : mxI S.u S.p ≤ 1000000 := h1; have h2 : mnI S.v S.q < -1000000 := h2; unfold bcode; rw [if_neg (by omega), if_neg (by omega), if_pos h2]
  refine All.br' (fun h3 => fin _ ?_) (fun h3 => ?_)
  · have h0 : -1000000 ≤ mnI S.u S.p := h0; have h1 : mxI S.u S.p ≤ 1000000 := h1; have h2 : -1000000 ≤ mnI S.v S.q := h2; have h3 : 1000000 < mxI S.v S.q := h3; unfold bcode; rw [if_neg (by omega), if_neg (by omega), if_neg (by omega), if_pos h3]
  refine All.br' (fun h4 => fin _ ?_) (fun h4 => ?_)
  · have h0 : -1000000 ≤ mnI S.u S.p := h0; have h1 : mxI S.u S.p ≤ 1000000 := h1; have h2 : -1000000 ≤ mnI S.v S.q := h2; have h3 : mxI S.v S.q ≤ 1000000 := h3; have h4 : mnI S.w S.r < -1000000 := h4; unfold bcode; rw [if_neg (by omega), if_neg (by omega), if_neg (by omega), if_neg (by omega), if_pos h4]
  refine All.br' (fun h5 => fin _ ?_) (fun h5 => ?_)
  · have h0 : -1000000 ≤ mnI S.u S.p := h0; have h1 : mxI S.u S.p ≤ 1000000 := h1; have h2 : -1000000 ≤ mnI S.v S.q := h2; have h3 : mxI S.v S.q ≤ 1000000 := h3; have h4 : -1000000 ≤ mnI S.w S.r := h4; have h5 : 1000000 < mxI S.w S.r := h5; unfold bcode; rw [if_neg (by omega), if_neg (by omega), if_neg (by omega), if_neg (by omega), if_neg (by omega), if_pos h5]
  refine All.br' (fun h6 => fin _ ?_) (fun h6 => ?_)
  · have h0 : -1000000 ≤ mnI S.u S.p := h0; have h1 : mxI S.u S.p ≤ 1000000 := h1; have h2 : -1000000 ≤ mnI S.v S.q := h2; have h3 : mxI S.v S.q ≤ 1000000 := h3; have h4 : -1000000 ≤ mnI S.w S.r := h4; have h5 : mxI S.w S.r ≤ 1000000 := h5; have h6 : S.p ≤ S.u := h6; unfold bcode; rw [if_neg (by omega), if_neg (by omega), if_neg (by omega), if_neg (by omega), if_neg (by omega), if_neg (by omega), if_pos h6]
  refine All.br' (fun h7 => fin _ ?_) (fun h7 => ?_)
  · have h0 : -1000000 ≤ mnI S.u S.p := h0; have h1 : mxI S.u S.p ≤ 1000000 := h1; have h2 : -1000000 ≤ mnI S.v S.q := h2; have h3 : mxI S.v S.q ≤ 1000000 := h3; have h4 : -1000000 ≤ mnI S.w S.r := h4; have h5 : mxI S.w S.r ≤ 1000000 := h5; have h6 : S.u < S.p := h6; have h7 : S.q ≤ S.v := h7; unfold bcode; rw [if_neg (by omega), if_neg (by omega), if_neg (by omega), if_neg (by omega), if_neg (by omega), if_neg (by omega), if_neg (by omega), if_pos h7]
  refine All.br' (fun h8 => fin _ ?_) (fun h8 => ?_)
  · have h0 : -1000000 ≤ mnI S.u S.p := h0; have h1 : mxI S.u S.p ≤ 1000000 := h1; have h2 : -1000000 ≤ mnI S.v S.q := h2; have h3 : mxI S.v S.q ≤ 1000000 := h3; have h4 : -1000000 ≤ mnI S.w S.r := h4; have h5 : mxI S.w S.r ≤ 1000000 := h5; have h6 : S.u < S.p := h6; have h7 : S.v < S.q := h7; have h8 : S.r ≤ S.w := h8; unfold bcode; rw [if_neg (by omega), if_neg (by omega), if_neg (by omega), if_neg (by omega), if_neg (by omega), if_neg (by omega), if_neg (by omega), if_neg (by omega), if_pos h8]
  exact fin _ (by have h0 : -1000000 ≤ mnI S.u S.p := h0; have h1 : mxI S.u S.p ≤ 1000000 := h1; have h2 : -1000000 ≤ mnI S.v S.q := h2; have h3 : mxI S.v S.q ≤ 1000000 := h3; have h4 : -1000000 ≤ mnI S.w S.r := h4; have h5 : mxI S.w S.r ≤ 1000000 := h5; have h6 : S.u < S.p := h6; have h7 : S.v < S.q := h7; have h8 : S.w < S.r := h8; unfold bcode; rw [if_neg (by omega), if_neg (by omega), if_neg (by omega), if_neg (by omega), if_neg (by omega), if_neg (by omega), if_neg (by omega), if_neg (by omega), if_neg (by omega)])
theorem bcode_zero (h : bcode S = 0) (hl : S.lo < S.hi) : Bx S := by
  unfold bcode at h
  have a0 := mnI_spec S.u S.p
  have a1 := mxI_spec S.u S.p
  have a2 := mnI_spec S.v S.q
  have a3 := mxI_spec S.v S.q
  have a4 := mnI_spec S.w S.r
  have a5 := mxI_spec S.w S.r
  by_cases c0 : mnI S.u S.p < -1000000
  · rw [if_pos c0] at h; cases h
  by_cases c1 : 1000000 < mxI S.u S.p
  · rw [if_neg c0] at h; rw [if_pos c1] at h; cases h
  by_cases c2 : mnI S.v S.q < -1000000
  · rw [if_neg c0, if_neg c1] at h; rw [if_pos c2] at h; cases h
  by_cases c3 : 1000000 < mxI S.v S.q
  · rw [if_neg c0, if_neg c1, if_neg c2] at h; rw [if_pos c3] at h; cases h
  by_cases c4 : mnI S.w S.r < -1000000
  · rw [if_neg c0, if_neg c1, if_neg c2, if_neg c3] at h; rw [if_pos c4] at h; cases h
  by_cases c5 : 1000000 < mxI S.w S.r
  · rw [if_neg c0, if_neg c1, if_neg c2, if_neg c3, if_neg c4] at h; rw [if_pos c5] at h; cases h
  by_cases c6 : S.p ≤ S.u
  · rw [if_neg c0, if_neg c1, if_neg c2, if_neg c3, if_neg c4, if_neg c5] at h; rw [if_pos c6] at h; cases h
  by_cases c7 : S.q ≤ S.v
  · rw [if_neg c0, if_neg c1, if_neg c2, if_neg c3, if_neg c4, if_neg c5, if_neg c6] at h; rw [if_pos c7] at h; cases h
  by_cases c8 : S.r ≤ S.w
  · rw [if_neg c0, if_neg c1, if_neg c2, if_neg c3, if_neg c4, if_neg c5, if_neg c6, if_neg c7] at h; rw [if_pos c8] at h; cases h
  exact ⟨⟨by omega, by omega⟩, ⟨by omega, by omega⟩, ⟨by omega, by omega⟩, ⟨by omega, by omega⟩, ⟨by omega, by omega⟩, ⟨by omega, by omega⟩, by omega, by omega, by omega, hl⟩
/-! The law -/
def rQ (o c : Bool) : Con := (17, AR, .tup [⟨false, [.bool (.lit o)]⟩, e0]) :: (18, AR, .tup [⟨false, [.bool (.lit c)]⟩, e0]) :: (19, AR, .tup [⟨false, [i8 (.at 9)]⟩, e0]) :: (12, [prismV], .tup [⟨true, [i8 (.at 20), i8 (.at 21), i8 (.at 0), i8 (.at 22), i8 (.at 23), i8 (.at 1)]⟩, e0]) :: con1
def inT (b : Bool) : Con := (52, [prismV], .one (.bool (.lit b))) :: con1
def cvT (b : Bool) : Con := (53, [.one (.ssl L0)], .one (.bool (.lit b))) :: inT true
def bxT : Con := (49, [.agg (iv 2 6)], .one (i8 (.at 9))) :: (37, [.one (.ssl L0)], .tup [⟨true, [i8 (.at 20), i8 (.at 21)]⟩, ⟨true, [i8 (.at 22), i8 (.at 23)]⟩, ⟨false, [i8 (.lit 0)]⟩]) :: cvT true
def lt01 (b : Bool) : PC := [(.lt (.at 0) (.at 1), b)]
def sE (b : Bool) : PC := [(.eq (.at 9) (.lit (-1)), b)]
def zF1 : PC := [(.lt (.at 4) (.at 1), false)]
def zF2 : PC := [(.lt (.at 4) (.at 1), true), (.lt (.at 0) (.at 7), false)]
def zM : PC := [(.lt (.at 4) (.at 1), true), (.lt (.at 0) (.at 7), true), (.lt (.at 2) (.at 22), true), (.lt (.at 20) (.at 5), true), (.lt (.at 3) (.at 23), true), (.lt (.at 21) (.at 6), true)]
def YT : T SV := .ret (.one (.bool (.lit true)))
def g80 : PC := [(.lt (.lit 80) (.at 8), true)]
def p65 : PC := rg 8 65 80
def p02 : PC := rg 8 0 2
theorem po_1 : treeBL Try.prog con1 [L0] [] g80 300 30 7 AR = YT := by kernel_rfl
theorem po_2 : treeBL Try.prog con1 [L0] [] p65 300 30 7 AR = YT := by kernel_rfl
theorem po_3 : treeBL Try.prog con1 [L0] [] p02 300 30 7 AR = YT := by kernel_rfl
theorem po_4 : treeBL Try.prog (inT false) [L0] [] pn 300 30 7 AR = YT := by kernel_rfl
def p5 : PC := pn ++ lt01 false
def p6' : PC := pn ++ lt01 true
def p7 : PC := pn ++ lt01 true ++ [(.eq (.at 9) (.lit 0), false)]
def p8 : PC := pn ++ sE false
def p9 : PC := pn ++ sE true ++ zF1
def p10 : PC := pn ++ sE true ++ zF2
def p11 : PC := pn ++ sE true ++ zM
theorem po_5 : treeBL Try.prog (inT true) [L0] [] p5 300 30 7 AR = YT := by kernel_rfl
theorem po_6 : treeBL Try.prog (cvT false) [L0] [] p6' 300 30 7 AR = YT := by kernel_rfl
theorem po_7 : treeBL Try.prog bxT [L0] [] p7 300 30 7 AR = YT := by kernel_rfl
theorem po_8 : treeBL Try.prog (rQ false false) [L0] [] p8 300 30 7 AR = YT := by kernel_rfl
theorem po_9 : treeBL Try.prog (rQ false false) [L0] [] p9 300 30 7 AR = YT := by kernel_rfl
theorem po_10 : treeBL Try.prog (rQ false false) [L0] [] p10 300 30 7 AR = YT := by kernel_rfl
theorem po_11 : treeBL Try.prog (rQ true true) [L0] [] p11 300 30 7 AR = YT := by kernel_rfl
theorem po_12 : treeBL Try.prog (rQ true false) [L0] [] p11 300 30 7 AR = YT := by kernel_rfl
def EB0 (S : S0) (y : Lay) (be : Int) : EnvS := EB S y be 0 0 0 0 0 0 0 0 0 0
theorem con1W {ρ : EnvS} : ConOkW Try.prog ρ W con1 := (con1_ok ρ).at W
theorem lawE {con : Con} {pc : PC} {be : Int} (hL : Lies S y W) (hcon : ConOkW Try.prog (EB0 S y be) W con) (hpc : pc.Ok (EB0 S y be)) (ht : treeBL Try.prog con [L0] [] pc 300 30 7 AR = YT) : Calls Try.prog 7 #[PV S y, BV S] W fun e w' => e = .returned (.bool true) ∧ Below W.heap.size W w' := by
  have hB : Bs Try.prog W con [L0] (EB0 S y be) := ⟨hcon, ebl hL⟩
  have hF : Fam (Bs Try.prog W con [L0]) [] (EB0 S y be) := hB
  have h := tree_lawL hF hpc wide ht (by kernel_rfl) rfl Good.yes
  exact h
def RES (o c : Bool) (S : S0) (y : Lay) (W : World) (be : Int) : Prop := ∀ w, Below W.heap.size W w →
  Calls Try.prog 17 #[PV S y, BV S] w (fun e w' => e = .returned (.tuple #[.bool o, .int .i64 0]) ∧ Below w.heap.size w w') ∧ Calls Try.prog 18 #[PV S y, BV S] w (fun e w' => e = .returned (.tuple #[.bool c, .int .i64 0]) ∧ Below w.heap.size w w') ∧
  Calls Try.prog 19 #[PV S y, BV S] w (fun e w' => e = .returned (.tuple #[.int .i64 be, .int .i64 0]) ∧ Below w.heap.size w w') ∧ Calls Try.prog 12 #[PV S y] w (fun e w' => e = .returned (.tuple #[.agg #[.int .i64 (lx S), .int .i64 (ly S), .int .i64 S.lo, .int .i64 (mxX S), .int .i64 (mxY S), .int .i64 S.hi], .int .i64 0]) ∧ Below w.heap.size w w')
theorem rQ_ok {o c : Bool} {be : Int} (h : RES o c S y W be) : ConOkW Try.prog (EB0 S y be) W (rQ o c) :=
  .cons (fun _ w hb => (h w hb).1) (.cons (fun _ w hb => (h w hb).2.1) (.cons (fun _ w hb => (h w hb).2.2.1) (.cons (fun _ w hb => (h w hb).2.2.2) con1W)))
theorem Val.mono {w : World} (V : Val S y W) (hb : Below W.heap.size W w) : Val S y w := ⟨V.L.mono hb, V.h, V.c, V.b⟩
theorem overlaps_valid (V : Val S y W) : Calls Try.prog 7 #[PV S y, BV S] W fun e w' => e = .returned (.bool true) ∧ Below W.heap.size W w' := by
  have h := V.h
  have b := V.b
  have hn : ∀ be, pn.Ok (EB0 S y be) := fun be => rg_ok h.n3 h.n64
  obtain ⟨k, k0, k1, k2, k3⟩ := first_of (fun j => Lf S j) S.n V.L.nn
  rcases k3 with rfl | ⟨k3, k4⟩
  · by_cases hr : Nr S 0 ∨ Nr S 1 ∨ Nr S 2 ∨ Nr S 3
    · obtain ⟨s1, s2⟩ := sep_two h V.c b hr
      have hres : RES false false S y W (sepv S) := fun w hb => by
        have V' := V.mono hb
        refine ⟨?_, Co_no V' s2, Se_2 V' k2, Hu_1 V'⟩
        by_cases hz : S.lo < S.r ∧ S.w < S.hi
        · exact Ov_2 V' k2 hz hr
        · exact Ov_z V' hz
      have q : PC.Ok (EB0 S y (sepv S)) p8 := (hn _).app (.cons' s1 .nil)
      exact lawE V.L (rQ_ok hres) q po_8
    · have r0 : ¬ Nr S 0 := fun q => hr (.inl q)
      have r1 : ¬ Nr S 1 := fun q => hr (.inr (.inl q))
      have r2 : ¬ Nr S 2 := fun q => hr (.inr (.inr (.inl q)))
      have r3 : ¬ Nr S 3 := fun q => hr (.inr (.inr (.inr q)))
      obtain ⟨m1, m2, m3, m4, m5⟩ := sep_none h b r0 r1 r2 r3
      by_cases hz : S.lo < S.r ∧ S.w < S.hi
      · have qs : PC.Ok (EB0 S y (sepv S)) (sE true) := .cons' m5 .nil
        have q : PC.Ok (EB0 S y (sepv S)) p11 := ((hn _).app qs).app (.cons' hz.2 (.cons' hz.1 (.cons' m4 (.cons' m2 (.cons' m1 (.cons' m3 .nil))))))
        by_cases hc : Cov S
        · have hres : RES true true S y W (sepv S) := fun w hb => ⟨Ov_3 (V.mono hb) k2 hz r0 r1 r2 r3, Co_yes (V.mono hb) hc, Se_2 (V.mono hb) k2, Hu_1 (V.mono hb)⟩
          exact lawE V.L (rQ_ok hres) q po_11
        · have hres : RES true false S y W (sepv S) := fun w hb => ⟨Ov_3 (V.mono hb) k2 hz r0 r1 r2 r3, Co_no (V.mono hb) hc, Se_2 (V.mono hb) k2, Hu_1 (V.mono hb)⟩
          exact lawE V.L (rQ_ok hres) q po_12
      · have hc : ¬ Cov S := fun hc => by
          have := b.wr
          have c1 := hc.1
          have c2 := hc.2.1
          omega
        have hres : RES false false S y W (sepv S) := fun w hb => ⟨Ov_z (V.mono hb) hz, Co_no (V.mono hb) hc, Se_2 (V.mono hb) k2, Hu_1 (V.mono hb)⟩
        have qs : PC.Ok (EB0 S y (sepv S)) (sE true) := .cons' m5 .nil
        by_cases c : S.w < S.hi
        · have q : PC.Ok (EB0 S y (sepv S)) p10 := ((hn _).app qs).app (.cons' c (.cons' (Int.not_lt.1 fun d => hz ⟨d, c⟩) .nil))
          exact lawE V.L (rQ_ok hres) q po_10
        · have q : PC.Ok (EB0 S y (sepv S)) p9 := ((hn _).app qs).app (.cons' (Int.not_lt.1 c) .nil)
          exact lawE V.L (rQ_ok hres) q po_9
  · have hres : RES false false S y W k := fun w hb => ⟨Ov_1 (V.mono hb) k0 k3 k2 k4, Co_no (V.mono hb) (sep_one V.c b k0 k3 k4), Se_1 (V.mono hb) k0 k3 k2 k4, Hu_1 (V.mono hb)⟩
    have q : PC.Ok (EB0 S y k) p8 := (hn _).app (.cons' (show k ≠ -1 by omega) .nil)
    exact lawE V.L (rQ_ok hres) q po_8
theorem overlaps_walk (hL : Lies S y W) (h0 : ∀ k, (k < 0 ∨ S.n ≤ k) → S.X k = 0 ∧ S.Y k = 0) : Calls Try.prog 7 #[PV S y, BV S] W fun e w' => e = .returned (.bool true) ∧ Below W.heap.size W w' := by
  have nn := hL.nn
  by_cases c1 : 80 < S.n
  · have q : PC.Ok (EB0 S y 0) g80 := .cons' c1 .nil
    exact lawE hL con1W q po_1
  by_cases c2 : 64 < S.n
  · have q : PC.Ok (EB0 S y 0) p65 := rg_ok (show 65 ≤ S.n by omega) (show S.n ≤ 80 by omega)
    exact lawE hL con1W q po_2
  by_cases c3 : S.n < 3
  · have q : PC.Ok (EB0 S y 0) p02 := rg_ok (show 0 ≤ S.n by omega) (show S.n ≤ 2 by omega)
    exact lawE hL con1W q po_3
  have n3 : 3 ≤ S.n := by omega
  have n64 : S.n ≤ 64 := by omega
  have hn : ∀ be, pn.Ok (EB0 S y be) := fun be => rg_ok n3 n64
  have hI : Rng S → ∀ be, ConOkW Try.prog (EB0 S y be) W (inT true) := fun hR be => .cons (fun _ w hb => in_yes (hL.mono hb) hR) con1W
  by_cases hR : Rng S
  · by_cases c4 : S.lo < S.hi
    · by_cases hc : Cv S
      · by_cases hb : bcode S = 0
        · exact overlaps_valid ⟨hL, hR, hc, bcode_zero hb c4⟩
        · have qs : PC.Ok (EB0 S y (bcode S)) (lt01 true) := .cons' c4 .nil
          have q : PC.Ok (EB0 S y (bcode S)) p7 := ((hn _).app qs).app (.cons' hb .nil)
          have k1 : ConOkW Try.prog (EB0 S y (bcode S)) W (cvT true) := .cons (fun _ w hb => cv_yes (hL.mono hb) hR hc) (hI hR _)
          have k2 := ConOkW.cons (ρ := EB0 S y (bcode S)) (W0 := W) (f := 37) (args := [.one (.ssl L0)]) (v := .tup [⟨true, [i8 (.at 20), i8 (.at 21)]⟩, ⟨true, [i8 (.at 22), i8 (.at 23)]⟩, ⟨false, [i8 (.lit 0)]⟩]) (fun _ w hb => bounds_of (hL.mono hb) hR hc.1) k1
          have k3 : ConOkW Try.prog (EB0 S y (bcode S)) W bxT := .cons (fun _ w _ => bc_any w) k2
          exact lawE hL k3 q po_7
      · have q : PC.Ok (EB0 S y 0) p6' := (hn _).app (.cons' c4 .nil)
        have k1 : ConOkW Try.prog (EB0 S y 0) W (cvT false) := .cons (fun _ w hb => cv_no (hL.mono hb) hR hc) (hI hR _)
        exact lawE hL k1 q po_6
    · have q : PC.Ok (EB0 S y 0) p5 := (hn _).app (.cons' (Int.not_lt.1 c4) .nil)
      exact lawE hL (hI hR _) q po_5
  · have k1 : ConOkW Try.prog (EB0 S y 0) W (inT false) := .cons (fun _ w hb => in_no (hL.mono hb) n3 n64 h0 hR) con1W
    exact lawE hL k1 (hn 0) po_4
end
end Go.Proofs.Ytmpadjlplgajcaa
