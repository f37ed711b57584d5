/- PrismShifts: the walk. -/
import Derived.Test.YtmpadjlplgajcaaPshD
namespace Go.Proofs.Ytmpadjlplgajcaa
open Go.RowKit
section
variable {S : S0} {y : Lay} {W : World} {dx dy dz z be k : Int}
theorem lawS {con : Con} {pc : PC} (hL : Lies S y W) (hcon : ConOkW Try.prog (EM S y dx dy dz z be S.n) W con) (hpc : pc.Ok (EM S y dx dy dz z be S.n)) (ht : treeBL Try.prog con [L0] [] pc 300 30 9 ARs = YT) :
    Calls Try.prog 9 #[PV S y, BV S, .agg #[.int .i64 dx, .int .i64 dy, .int .i64 dz], .int .i64 z] W fun e w' => e = .returned (.bool true) ∧ Below W.heap.size W w' := by
  have hF : Fam (Bs Try.prog W con [L0]) [] (EM S y dx dy dz z be S.n) := ⟨hcon, em_lols hL⟩
  have h := tree_lawL hF hpc wide ht (by kernel_rfl) rfl Good.yes
  exact h
theorem part_rc {T : S0} (hn : T.n = S.n) (hX : T.X = S.X) (hY : T.Y = S.Y) : ∀ k : Nat, T.rc k = S.rc k
  | 0 => rfl
  | k + 1 => by
    have hbf : ∀ c : Int, T.bf k c = S.bf k c := fun c => by simp only [S0.bf, S0.nx, hn, hX, hY]
    have hnx : T.nx k = S.nx k := by simp only [S0.nx, hn]
    simp only [S0.rc]
    rw [part_rc hn hX hY k, hbf, hbf, hnx, hY]
theorem part_cv {T : S0} (hn : T.n = S.n) (hX : T.X = S.X) (hY : T.Y = S.Y) (h : Cv S) : Cv T := by
  refine ⟨fun j h0 h1 => ?_, by rw [hn, part_rc hn hX hY]; exact h.2⟩
  have e : T.tn j = S.tn j := by simp only [S0.tn, S0.bf, S0.nx, hn, hX, hY]
  rw [e]
  exact h.1 j h0 (by rw [← hn]; exact h1)
theorem part_says {T : S0} {a b : IE} {x : Bool} (V : Val S y W) (hn : T.n = S.n) (hX : T.X = S.X) (hY : T.Y = S.Y) (hB : BV T = BV S) (ha : a.den (EM S y dx dy dz z be k) = T.lo) (hb : b.den (EM S y dx dy dz z be k) = T.hi) (hR : Rng T) (bx : Bx T) (hx : x = true ↔ Ans T) :
    ConSays Try.prog (EM S y dx dy dz z be k) W 17 [.agg [.blc 0 60 0 none (.at 8) KS, i8 a, i8 b], .agg (iv 2 6)] (resO x) := by
  intro α w hw hO
  have hl : lstAt (EM S y dx dy dz z be k) α w 0 ⟨60, 0, none, .at 8, KS, []⟩ := hO.at_ 0 _ rfl
  obtain ⟨y', hL', e⟩ := own_lies (T := T) hl rfl hn.symm fun j hj => by
    show [Value.int .i64 (FM S dx dy 0 j 0), Value.int .i64 (FM S dx dy 0 j 1)] = _
    rw [hX, hY]
    simp [FM, S0.F]
  have e2 : ([SV.agg [.blc 0 60 0 none (.at 8) KS, i8 a, i8 b], .agg (iv 2 6)].map (SV.den (EM S y dx dy dz z be k) α)).toArray = #[PV T y', BV T] := by
    rw [hB]
    show #[Value.agg #[(SCl.bls 0 (.at 8)).den (EM S y dx dy dz z be k) α, .int .i64 (a.den (EM S y dx dy dz z be k)), .int .i64 (b.den (EM S y dx dy dz z be k))], BV S] = _
    rw [e, ha, hb]; rfl
  rw [e2]
  exact (Ov_is ⟨hL', hR, part_cv hn hX hY V.c, bx⟩ hx).mono fun _ _ ⟨e1, e2⟩ => ⟨α, e1, e2, out_nil rfl⟩
theorem mv_args {α : Nat → Pl} {y' : Lay} (e : (SCl.bls 0 (.at 8)).den (EM S y dx dy dz z be k) α = .slice y'.p (mvS S dx dy dz).n.toNat y'.c) : ([mvA, cBox].map (SV.den (EM S y dx dy dz z be k) α)).toArray = #[PV (mvS S dx dy dz) y', BV (mvS S dx dy dz)] := by
  show #[Value.agg #[(SCl.bls 0 (.at 8)).den (EM S y dx dy dz z be k) α, .int .i64 (S.lo + dz), .int .i64 (S.hi + dz)], BV (mvS S dx dy dz)] = _
  rw [e]; rfl
theorem mv_lies {α : Nat → Pl} {w : World} (hO : Obs (EM S y dx dy dz z be k) W.heap.size α w (hv (lstH (insV [mvA, cBox])))) : ∃ y', Lies (mvS S dx dy dz) y' w ∧ (SCl.bls 0 (.at 8)).den (EM S y dx dy dz z be k) α = .slice y'.p (mvS S dx dy dz).n.toNat y'.c := by
  have hl : lstAt (EM S y dx dy dz z be k) α w 0 ⟨60, 40, none, .at 8, KS, []⟩ := hO.at_ 0 _ rfl
  exact own_lies (T := mvS S dx dy dz) hl rfl rfl fun j hj => by
    show [Value.int .i64 (FM S dx dy 40 j 0), Value.int .i64 (FM S dx dy 40 j 1)] = _
    simp [FM, mvS]
theorem mv_says {o : Bool} (V : Val S y W) (hM : Rng (mvS S dx dy dz)) (bx : Bx (mvS S dx dy dz)) (ho : o = true ↔ Ans S) : ConSays Try.prog (EM S y dx dy dz z be k) W 17 [mvA, cBox] (resO o) := by
  intro α w hw hO
  obtain ⟨y', hL', e⟩ := mv_lies hO
  rw [mv_args e]
  exact (Ov_is ⟨hL', hM, mv_cv V.c, bx⟩ (ho.trans mv_ans.symm)).mono fun _ _ ⟨e1, e2⟩ => ⟨α, e1, e2, out_nil rfl⟩
theorem mv_bad (V : Val S y W) (hM : Rng (mvS S dx dy dz)) (hb : bcode (mvS S dx dy dz) ≠ 0) : ConSays Try.prog (EM S y dx dy dz z be k) W 17 [mvA, cBox] resX := by
  intro α w hw hO
  obtain ⟨y', hL', e⟩ := mv_lies hO
  rw [mv_args e]
  have c4 : (mvS S dx dy dz).lo < (mvS S dx dy dz).hi := by have := V.b.lh; show S.lo + dz < S.hi + dz; omega
  exact (Ov_bad hL' hM (mv_cv V.c) c4 hb).mono fun _ _ ⟨e1, e2⟩ => ⟨α, e1, e2, out_nil rfl⟩
theorem cOv_ok {o : Bool} (V : Val S y W) (ho : o = true ↔ Ans S) : ConOkW Try.prog (EM S y dx dy dz z be k) W (cOv o con1) := .cons (fun _ w hb => Ov_is (V.mono hb) ho) con1W
theorem em_pv (V : Val S y W) : pv.Ok (EM S y dx dy dz z be k) := by
  have q : PC.Ok (EM S y dx dy dz z be k) VBx := ((((((rg_ok V.b.u.1 V.b.u.2).app (rg_ok V.b.v.1 V.b.v.2)).app (rg_ok V.b.w.1 V.b.w.2)).app (rg_ok V.b.p.1 V.b.p.2)).app (rg_ok V.b.q.1 V.b.q.2)).app (rg_ok V.b.r.1 V.b.r.2)).app (.cons' V.b.up (.cons' V.b.vq (.cons' V.b.wr (.cons' V.b.lh .nil))))
  exact (em_pcn V.h).app q
theorem yes_no (P : Prop) : ∃ o : Bool, o = true ↔ P := by
  by_cases h : P
  · exact ⟨true, fun _ => h, fun _ => rfl⟩
  · exact ⟨false, fun q => (by cases q), fun q => absurd q h⟩
/-- What the parts come to. -/
theorem parts (V : Val S y W) (z1 : S.lo < z) (z2 : z < S.hi) : (Ans S ↔ Ans { S with hi := z } ∨ Ans { S with lo := z }) := by
  have hw := V.b.wr
  constructor
  · rintro ⟨⟨h1, h2⟩, h3⟩
    by_cases c : S.w < z
    · exact .inl ⟨⟨h1, c⟩, h3⟩
    · exact .inr ⟨⟨by show z < S.r; omega, h2⟩, h3⟩
  · rintro (⟨⟨h1, h2⟩, h3⟩ | ⟨⟨h1, h2⟩, h3⟩)
    · have h2 : S.w < z := h2
      exact ⟨⟨h1, by omega⟩, h3⟩
    · have h1 : z < S.r := h1
      exact ⟨⟨by omega, h2⟩, h3⟩
theorem case0 {o : Bool} (V : Val S y W) (hK : ConOkW Try.prog (EM S y dx dy dz z be S.n) W (cM0 o)) (hp : PC.Ok (EM S y dx dy dz z be S.n) pM0) (ho : o = true ↔ Ans S) :
    Calls Try.prog 9 #[PV S y, BV S, .agg #[.int .i64 dx, .int .i64 dy, .int .i64 dz], .int .i64 z] W fun e w' => e = .returned (.bool true) ∧ Below W.heap.size W w' := by
  by_cases c1 : z ≤ S.lo
  · have q : PC.Ok (EM S y dx dy dz z be S.n) zAs := .cons' c1 .nil
    cases o
    · exact lawS V.L hK (hp.app q) ps_0fA
    · exact lawS V.L hK (hp.app q) ps_0tA
  by_cases c2 : S.hi ≤ z
  · have q : PC.Ok (EM S y dx dy dz z be S.n) zBs := .cons' (Int.not_le.1 c1) (.cons' c2 .nil)
    cases o
    · exact lawS V.L hK (hp.app q) ps_0fB
    · exact lawS V.L hK (hp.app q) ps_0tB
  have z1 : S.lo < z := Int.not_le.1 c1
  have z2 : z < S.hi := Int.not_le.1 c2
  have q : PC.Ok (EM S y dx dy dz z be S.n) zCs := .cons' z1 (.cons' z2 .nil)
  obtain ⟨x1, hx1⟩ := yes_no (Ans { S with hi := z })
  obtain ⟨x2, hx2⟩ := yes_no (Ans { S with lo := z })
  have hz : InM z := ⟨by have := V.h.lo.1; omega, by have := V.h.hi.2; omega⟩
  have R1 : Rng { S with hi := z } := ⟨V.h.n3, V.h.n64, V.h.lo, hz, V.h.X, V.h.Y⟩
  have R2 : Rng { S with lo := z } := ⟨V.h.n3, V.h.n64, hz, V.h.hi, V.h.X, V.h.Y⟩
  have B1 : Bx { S with hi := z } := ⟨V.b.u, V.b.v, V.b.w, V.b.p, V.b.q, V.b.r, V.b.up, V.b.vq, V.b.wr, z1⟩
  have B2 : Bx { S with lo := z } := ⟨V.b.u, V.b.v, V.b.w, V.b.p, V.b.q, V.b.r, V.b.up, V.b.vq, V.b.wr, z2⟩
  have s1 : ConSays Try.prog (EM S y dx dy dz z be S.n) W 17 [loA, .agg (iv 2 6)] (resO x1) := part_says (T := { S with hi := z }) V rfl rfl rfl rfl (by show (if S.lo > S.lo then S.lo else S.lo) = S.lo; split <;> rfl) (by show (if S.hi < z then S.hi else z) = z; rw [if_neg (by omega)]) R1 B1 hx1
  have s2 : ConSays Try.prog (EM S y dx dy dz z be S.n) W 17 [hiA, .agg (iv 2 6)] (resO x2) := part_says (T := { S with lo := z }) V rfl rfl rfl rfl (by show (if S.lo > z then S.lo else z) = z; rw [if_neg (by omega)]) (by show (if S.hi < S.hi then S.hi else S.hi) = S.hi; split <;> rfl) R2 B2 hx2
  have hS : ConOkW Try.prog (EM S y dx dy dz z be S.n) W (cSl x1 x2 (cM0 o)) := .says (slLo_says V.L V.h V.c V.b.lh z1) (.says (slHi_says V.L V.h V.c V.b.lh z2) (.says s1 (.says s2 hK)))
  have hor : o = true ↔ (x1 = true ∨ x2 = true) := by rw [ho, parts V z1 z2, hx1, hx2]
  cases o <;> cases x1 <;> cases x2 <;> simp at hor
  · exact lawS V.L hS (hp.app q) ps_0fCff
  · exact lawS V.L hS (hp.app q) ps_0tCft
  · exact lawS V.L hS (hp.app q) ps_0tCtf
  · exact lawS V.L hS (hp.app q) ps_0tCtt
theorem case1 {o : Bool} (V : Val S y W) (hK : ConOkW Try.prog (EM S y dx dy dz z be S.n) W (cM1 o)) (hp : PC.Ok (EM S y dx dy dz z be S.n) pM1) (ho : o = true ↔ Ans S) :
    Calls Try.prog 9 #[PV S y, BV S, .agg #[.int .i64 dx, .int .i64 dy, .int .i64 dz], .int .i64 z] W fun e w' => e = .returned (.bool true) ∧ Below W.heap.size W w' := by
  by_cases c1 : z ≤ S.lo
  · have q : PC.Ok (EM S y dx dy dz z be S.n) zAs := .cons' c1 .nil
    cases o
    · exact lawS V.L hK (hp.app q) ps_1fA
    · exact lawS V.L hK (hp.app q) ps_1tA
  by_cases c2 : S.hi ≤ z
  · have q : PC.Ok (EM S y dx dy dz z be S.n) zBs := .cons' (Int.not_le.1 c1) (.cons' c2 .nil)
    cases o
    · exact lawS V.L hK (hp.app q) ps_1fB
    · exact lawS V.L hK (hp.app q) ps_1tB
  have z1 : S.lo < z := Int.not_le.1 c1
  have z2 : z < S.hi := Int.not_le.1 c2
  have q : PC.Ok (EM S y dx dy dz z be S.n) zCs := .cons' z1 (.cons' z2 .nil)
  obtain ⟨x1, hx1⟩ := yes_no (Ans { S with hi := z })
  obtain ⟨x2, hx2⟩ := yes_no (Ans { S with lo := z })
  have hz : InM z := ⟨by have := V.h.lo.1; omega, by have := V.h.hi.2; omega⟩
  have R1 : Rng { S with hi := z } := ⟨V.h.n3, V.h.n64, V.h.lo, hz, V.h.X, V.h.Y⟩
  have R2 : Rng { S with lo := z } := ⟨V.h.n3, V.h.n64, hz, V.h.hi, V.h.X, V.h.Y⟩
  have B1 : Bx { S with hi := z } := ⟨V.b.u, V.b.v, V.b.w, V.b.p, V.b.q, V.b.r, V.b.up, V.b.vq, V.b.wr, z1⟩
  have B2 : Bx { S with lo := z } := ⟨V.b.u, V.b.v, V.b.w, V.b.p, V.b.q, V.b.r, V.b.up, V.b.vq, V.b.wr, z2⟩
  have s1 : ConSays Try.prog (EM S y dx dy dz z be S.n) W 17 [loA, .agg (iv 2 6)] (resO x1) := part_says (T := { S with hi := z }) V rfl rfl rfl rfl (by show (if S.lo > S.lo then S.lo else S.lo) = S.lo; split <;> rfl) (by show (if S.hi < z then S.hi else z) = z; rw [if_neg (by omega)]) R1 B1 hx1
  have s2 : ConSays Try.prog (EM S y dx dy dz z be S.n) W 17 [hiA, .agg (iv 2 6)] (resO x2) := part_says (T := { S with lo := z }) V rfl rfl rfl rfl (by show (if S.lo > z then S.lo else z) = z; rw [if_neg (by omega)]) (by show (if S.hi < S.hi then S.hi else S.hi) = S.hi; split <;> rfl) R2 B2 hx2
  have hS : ConOkW Try.prog (EM S y dx dy dz z be S.n) W (cSl x1 x2 (cM1 o)) := .says (slLo_says V.L V.h V.c V.b.lh z1) (.says (slHi_says V.L V.h V.c V.b.lh z2) (.says s1 (.says s2 hK)))
  have hor : o = true ↔ (x1 = true ∨ x2 = true) := by rw [ho, parts V z1 z2, hx1, hx2]
  cases o <;> cases x1 <;> cases x2 <;> simp at hor
  · exact lawS V.L hS (hp.app q) ps_1fCff
  · exact lawS V.L hS (hp.app q) ps_1tCft
  · exact lawS V.L hS (hp.app q) ps_1tCtf
  · exact lawS V.L hS (hp.app q) ps_1tCtt
theorem case2 {o : Bool} (V : Val S y W) (hK : ConOkW Try.prog (EM S y dx dy dz z be S.n) W (cM2 o)) (hp : PC.Ok (EM S y dx dy dz z be S.n) pM2) (ho : o = true ↔ Ans S) :
    Calls Try.prog 9 #[PV S y, BV S, .agg #[.int .i64 dx, .int .i64 dy, .int .i64 dz], .int .i64 z] W fun e w' => e = .returned (.bool true) ∧ Below W.heap.size W w' := by
  by_cases c1 : z ≤ S.lo
  · have q : PC.Ok (EM S y dx dy dz z be S.n) zAs := .cons' c1 .nil
    cases o
    · exact lawS V.L hK (hp.app q) ps_2fA
    · exact lawS V.L hK (hp.app q) ps_2tA
  by_cases c2 : S.hi ≤ z
  · have q : PC.Ok (EM S y dx dy dz z be S.n) zBs := .cons' (Int.not_le.1 c1) (.cons' c2 .nil)
    cases o
    · exact lawS V.L hK (hp.app q) ps_2fB
    · exact lawS V.L hK (hp.app q) ps_2tB
  have z1 : S.lo < z := Int.not_le.1 c1
  have z2 : z < S.hi := Int.not_le.1 c2
  have q : PC.Ok (EM S y dx dy dz z be S.n) zCs := .cons' z1 (.cons' z2 .nil)
  obtain ⟨x1, hx1⟩ := yes_no (Ans { S with hi := z })
  obtain ⟨x2, hx2⟩ := yes_no (Ans { S with lo := z })
  have hz : InM z := ⟨by have := V.h.lo.1; omega, by have := V.h.hi.2; omega⟩
  have R1 : Rng { S with hi := z } := ⟨V.h.n3, V.h.n64, V.h.lo, hz, V.h.X, V.h.Y⟩
  have R2 : Rng { S with lo := z } := ⟨V.h.n3, V.h.n64, hz, V.h.hi, V.h.X, V.h.Y⟩
  have B1 : Bx { S with hi := z } := ⟨V.b.u, V.b.v, V.b.w, V.b.p, V.b.q, V.b.r, V.b.up, V.b.vq, V.b.wr, z1⟩
  have B2 : Bx { S with lo := z } := ⟨V.b.u, V.b.v, V.b.w, V.b.p, V.b.q, V.b.r, V.b.up, V.b.vq, V.b.wr, z2⟩
  have s1 : ConSays Try.prog (EM S y dx dy dz z be S.n) W 17 [loA, .agg (iv 2 6)] (resO x1) := part_says (T := { S with hi := z }) V rfl rfl rfl rfl (by show (if S.lo > S.lo then S.lo else S.lo) = S.lo; split <;> rfl) (by show (if S.hi < z then S.hi else z) = z; rw [if_neg (by omega)]) R1 B1 hx1
  have s2 : ConSays Try.prog (EM S y dx dy dz z be S.n) W 17 [hiA, .agg (iv 2 6)] (resO x2) := part_says (T := { S with lo := z }) V rfl rfl rfl rfl (by show (if S.lo > z then S.lo else z) = z; rw [if_neg (by omega)]) (by show (if S.hi < S.hi then S.hi else S.hi) = S.hi; split <;> rfl) R2 B2 hx2
  have hS : ConOkW Try.prog (EM S y dx dy dz z be S.n) W (cSl x1 x2 (cM2 o)) := .says (slLo_says V.L V.h V.c V.b.lh z1) (.says (slHi_says V.L V.h V.c V.b.lh z2) (.says s1 (.says s2 hK)))
  have hor : o = true ↔ (x1 = true ∨ x2 = true) := by rw [ho, parts V z1 z2, hx1, hx2]
  cases o <;> cases x1 <;> cases x2 <;> simp at hor
  · exact lawS V.L hS (hp.app q) ps_2fCff
  · exact lawS V.L hS (hp.app q) ps_2tCft
  · exact lawS V.L hS (hp.app q) ps_2tCtf
  · exact lawS V.L hS (hp.app q) ps_2tCtt
theorem shifts_walk (hL : Lies S y W) (h0 : ∀ k, (k < 0 ∨ S.n ≤ k) → S.X k = 0 ∧ S.Y k = 0) : Calls Try.prog 9 #[PV S y, BV S, .agg #[.int .i64 dx, .int .i64 dy, .int .i64 dz], .int .i64 z] W fun e w' => e = .returned (.bool true) ∧ Below W.heap.size W w' := by
  have nn := hL.nn
  have hc1 : ∀ be, ConOkW Try.prog (EM S y dx dy dz z be S.n) W con1 := fun be => con1W
  by_cases c1 : 80 < S.n
  · have q : PC.Ok (EM S y dx dy dz z 0 S.n) g80 := .cons' c1 .nil
    exact lawS hL (hc1 0) q pi_1
  by_cases c2 : 64 < S.n
  · have q : PC.Ok (EM S y dx dy dz z 0 S.n) p65 := rg_ok (show 65 ≤ S.n by omega) (show S.n ≤ 80 by omega)
    exact lawS hL (hc1 0) q pi_2
  by_cases c3 : S.n < 3
  · have q : PC.Ok (EM S y dx dy dz z 0 S.n) p02 := rg_ok (show 0 ≤ S.n by omega) (show S.n ≤ 2 by omega)
    exact lawS hL (hc1 0) q pi_3
  have n3 : 3 ≤ S.n := by omega
  have n64 : S.n ≤ 64 := by omega
  have hn : ∀ be, pn.Ok (EM S y dx dy dz z be S.n) := fun be => rg_ok n3 n64
  have hI : Rng S → ∀ be, ConOkW Try.prog (EM S y dx dy dz z be S.n) W (inT true) := fun hR be => .cons (fun _ w hb => in_yes (hL.mono hb) hR) con1W
  by_cases hR : Rng S
  · by_cases c4 : S.lo < S.hi
    · by_cases hc : Cv S
      · by_cases hb : bcode S = 0
        · have V : Val S y W := ⟨hL, hR, hc, bcode_zero hb c4⟩
          obtain ⟨o, ho⟩ := yes_no (Ans S)
          by_cases hm : InM dx ∧ InM dy ∧ InM dz ∧ Rng (mvS S dx dy dz)
          · obtain ⟨hx, hy, hz, hM⟩ := hm
            have hms := move_says (z := z) (be := 0) hL hR hc c4 h0 hx hy hz hM
            have hp : PC.Ok (EM S y dx dy dz z 0 S.n) (pv ++ byR) := (em_pv V).app (em_by hx hy hz)
            by_cases hb2 : bcode (mvS S dx dy dz) = 0
            · have bx : Bx (mvS S dx dy dz) := bcode_zero hb2 (by show S.lo + dz < S.hi + dz; omega)
              exact case0 V (.says hms (.says (mv_says V hM bx ho) (cOv_ok V ho))) hp ho
            · exact case1 V (.says hms (.says (mv_bad V hM hb2) (cOv_ok V ho))) hp ho
          · exact case2 (be := 0) V (.cons (fun _ w hb => move_bad (hL.mono hb) hR hc c4 h0 hm) (cOv_ok V ho)) (em_pv V) ho
        · have qs : PC.Ok (EM S y dx dy dz z (bcode S) S.n) (lt01 true) := .cons' c4 .nil
          have q : PC.Ok (EM S y dx dy dz z (bcode S) S.n) p7 := ((hn _).app qs).app (.cons' hb .nil)
          have k1 : ConOkW Try.prog (EM S y dx dy dz z (bcode S) S.n) W (cvT true) := .cons (fun _ w hb => cv_yes (hL.mono hb) hR hc) (hI hR _)
          have k2 := ConOkW.cons (ρ := EM S y dx dy dz z (bcode S) S.n) (W0 := W) (f := 37) (args := [.one (.ssl L0)]) (v := .tup [⟨true, [i8 (.at 20), i8 (.at 21)]⟩, ⟨true, [i8 (.at 22), i8 (.at 23)]⟩, ⟨false, [i8 (.lit 0)]⟩]) (fun _ w hb => bounds_of (hL.mono hb) hR hc.1) k1
          have k3 : ConOkW Try.prog (EM S y dx dy dz z (bcode S) S.n) W bxT := .cons (fun _ w _ => bc_any w) k2
          exact lawS hL k3 q pi_7
      · have q1 : PC.Ok (EM S y dx dy dz z 0 S.n) (lt01 true) := .cons' c4 .nil
        have k1 : ConOkW Try.prog (EM S y dx dy dz z 0 S.n) W (cvT false) := .cons (fun _ w hb => cv_no (hL.mono hb) hR hc) (hI hR _)
        exact lawS hL k1 ((hn 0).app q1) pi_6
    · have q1 : PC.Ok (EM S y dx dy dz z 0 S.n) (lt01 false) := .cons' (Int.not_lt.1 c4) .nil
      exact lawS hL (hI hR 0) ((hn 0).app q1) pi_5
  · have k1 : ConOkW Try.prog (EM S y dx dy dz z 0 S.n) W (inT false) := .cons (fun _ w hb => in_no (hL.mono hb) n3 n64 h0 hR) con1W
    exact lawS hL k1 (hn 0) pi_4
end
end Go.Proofs.Ytmpadjlplgajcaa
