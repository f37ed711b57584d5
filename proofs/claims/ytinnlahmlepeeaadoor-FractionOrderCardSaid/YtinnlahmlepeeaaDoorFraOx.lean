/- The walk of FractionOrder: the cases. -/
import Derived.Test.YtinnlahmlepeeaaDoorFraOw
namespace Go.Proofs.YtinnlahmlepeeaaDoor
open Go.RowKit
set_option maxRecDepth 100000 in
set_option maxHeartbeats 2000000 in
theorem order_walk (a b c : F2) (ha : In64 a.1 ∧ In64 a.2) (hb : In64 b.1 ∧ In64 b.2) (hc : In64 c.1 ∧ In64 c.2) (w : World) (he : Env w) :
    Calls Tryd.prog 10 #[.agg #[.int .i64 a.1, .int .i64 a.2], .agg #[.int .i64 b.1, .int .i64 b.2], .agg #[.int .i64 c.1, .int .i64 c.2]] w fun e w' => e = .returned (.bool true) ∧ Below w.heap.size w w' := by
  rcases va : validF a with _ | _
  · have hC : ConOkW Tryd.prog (envX [a.1, a.2, b.1, b.2, c.1, c.2] []) w (vlC 0 false ++ aw4) := conAppW (vl_ok ha va rfl rfl) (aw_ok he _)
    have h := tree_lawW hC .nil wideF orV1 cbO rfl Good.yes
    exact h
  rcases vb : validF b with _ | _
  · have hC : ConOkW Tryd.prog (envX [a.1, a.2, b.1, b.2, c.1, c.2] []) w (vlC 0 true ++ (vlC 2 false ++ aw4)) := conAppW (vl_ok ha va rfl rfl) (conAppW (vl_ok hb vb rfl rfl) (aw_ok he _))
    have h := tree_lawW hC .nil wideF orV2 cbO rfl Good.yes
    exact h
  rcases vc : validF c with _ | _
  · have hC : ConOkW Tryd.prog (envX [a.1, a.2, b.1, b.2, c.1, c.2] []) w (vlC 0 true ++ (vlC 2 true ++ (vlC 4 false ++ aw4))) := conAppW (vl_ok ha va rfl rfl) (conAppW (vl_ok hb vb rfl rfl) (conAppW (vl_ok hc vc rfl rfl) (aw_ok he _)))
    have h := tree_lawW hC .nil wideF orV3 cbO rfl Good.yes
    exact h
  have hneg := cmpR_neg va vb
  have hbd := floorR_bd va
  have h31 : PC.Ok (envX [a.1, a.2, b.1, b.2, c.1, c.2] [0, cmpR b c, 0, cmpR a c, (addR a c).1.1, (addR a c).1.2, (addR a c).2, (addR b c).1.1, (addR b c).1.2, (addR b c).2, cmpR (addR a c).1 (addR b c).1, floorR a, roundR a, floorR b, roundR b]) r31 := rg_ok hbd.1 hbd.2
  have hm : PC.Ok (envX [a.1, a.2, b.1, b.2, c.1, c.2] [0, cmpR b c, 0, cmpR a c, (addR a c).1.1, (addR a c).1.2, (addR a c).2, (addR b c).1.1, (addR b c).1.2, (addR b c).2, cmpR (addR a c).1 (addR b c).1, floorR a, roundR a, floorR b, roundR b]) m1 ∨ PC.Ok (envX [a.1, a.2, b.1, b.2, c.1, c.2] [0, cmpR b c, 0, cmpR a c, (addR a c).1.1, (addR a c).1.2, (addR a c).2, (addR b c).1.1, (addR b c).1.2, (addR b c).2, cmpR (addR a c).1 (addR b c).1, floorR a, roundR a, floorR b, roundR b]) m2 := (round_near va).imp (fun h => .cons' h .nil) (fun h => .cons' h .nil)
  have hE : PC.Ok (envX [a.1, a.2, b.1, b.2, c.1, c.2] [0, cmpR b c, 0, cmpR a c, (addR a c).1.1, (addR a c).1.2, (addR a c).2, (addR b c).1.1, (addR b c).1.2, (addR b c).2, cmpR (addR a c).1 (addR b c).1, floorR a, roundR a, floorR b, roundR b]) x1 ∨ PC.Ok (envX [a.1, a.2, b.1, b.2, c.1, c.2] [0, cmpR b c, 0, cmpR a c, (addR a c).1.1, (addR a c).1.2, (addR a c).2, (addR b c).1.1, (addR b c).1.2, (addR b c).2, cmpR (addR a c).1 (addR b c).1, floorR a, roundR a, floorR b, roundR b]) x2 ∨ PC.Ok (envX [a.1, a.2, b.1, b.2, c.1, c.2] [0, cmpR b c, 0, cmpR a c, (addR a c).1.1, (addR a c).1.2, (addR a c).2, (addR b c).1.1, (addR b c).1.2, (addR b c).2, cmpR (addR a c).1 (addR b c).1, floorR a, roundR a, floorR b, roundR b]) (x3 (cmpR a b)) := by
    by_cases e1 : (addR a c).2 = 0
    · by_cases e2 : (addR b c).2 = 0
      · exact .inr (.inr (.cons' e1 (.cons' e2 (.cons' (cmpR_add va vb vc e1 e2) .nil))))
      · exact .inr (.inl (.cons' e1 (.cons' e2 .nil)))
    · exact .inl (.cons' e1 .nil)
  have hq : ¬ cmpR a b = 0 → PC.Ok (envX [a.1, a.2, b.1, b.2, c.1, c.2] [0, cmpR b c, 0, cmpR a c, (addR a c).1.1, (addR a c).1.2, (addR a c).2, (addR b c).1.1, (addR b c).1.2, (addR b c).2, cmpR (addR a c).1 (addR b c).1, floorR a, roundR a, floorR b, roundR b]) nq1 ∨ PC.Ok (envX [a.1, a.2, b.1, b.2, c.1, c.2] [0, cmpR b c, 0, cmpR a c, (addR a c).1.1, (addR a c).1.2, (addR a c).2, (addR b c).1.1, (addR b c).1.2, (addR b c).2, cmpR (addR a c).1 (addR b c).1, floorR a, roundR a, floorR b, roundR b]) nq2 := by
    intro h
    by_cases e1 : a.1 = b.1
    · refine .inr (.cons' e1 (.cons' (fun e2 => h ?_) .nil))
      have : a = b := Prod.ext e1 e2
      rw [this]
      exact cmpR_self vb
    · exact .inl (.cons' e1 .nil)
  have hO : cmpR a b ≤ 0 → PC.Ok (envX [a.1, a.2, b.1, b.2, c.1, c.2] [0, cmpR b c, 0, cmpR a c, (addR a c).1.1, (addR a c).1.2, (addR a c).2, (addR b c).1.1, (addR b c).1.2, (addR b c).2, cmpR (addR a c).1 (addR b c).1, floorR a, roundR a, floorR b, roundR b]) ordF := fun h => .cons' (floorR_mono va vb h) (.cons' (roundR_mono va vb h) .nil)
  have hY : cmpR a b ≤ 0 → PC.Ok (envX [a.1, a.2, b.1, b.2, c.1, c.2] [0, cmpR b c, 0, cmpR a c, (addR a c).1.1, (addR a c).1.2, (addR a c).2, (addR b c).1.1, (addR b c).1.2, (addR b c).2, cmpR (addR a c).1 (addR b c).1, floorR a, roundR a, floorR b, roundR b]) yP ∨ PC.Ok (envX [a.1, a.2, b.1, b.2, c.1, c.2] [0, cmpR b c, 0, cmpR a c, (addR a c).1.1, (addR a c).1.2, (addR a c).2, (addR b c).1.1, (addR b c).1.2, (addR b c).2, cmpR (addR a c).1 (addR b c).1, floorR a, roundR a, floorR b, roundR b]) yN := by
    intro h
    by_cases h2 : cmpR b c ≤ 0
    · exact .inr (.cons' h2 (.cons' (cmpR_trans va vb vc h h2) .nil))
    · exact .inl (.cons' (Int.not_le.1 h2) .nil)
  rcases cmpR_cases va vb with ⟨hx, _⟩ | ⟨hx, _⟩ | ⟨hx, _⟩
  · have hC := oC_ok (X := -1) (Y := 1) ha hb hc he va vb vc hx (by omega)
    rw [hx] at hE
    have hO := hO (by omega)
    have hY := hY (by omega)
    have hq := hq (by omega)
    rcases hq with hq | hq
    · rcases hY with hY | hY
      · rcases hE with hE | hE | hE
        · rcases hm with hm | hm
          · have h := tree_lawW hC (PC.Ok.app hq (PC.Ok.app hY (PC.Ok.app hE (PC.Ok.app hm (PC.Ok.app h31 hO))))) wideF orLnq1yPx1m1 cbO rfl Good.yes
            exact h
          · have h := tree_lawW hC (PC.Ok.app hq (PC.Ok.app hY (PC.Ok.app hE (PC.Ok.app hm (PC.Ok.app h31 hO))))) wideF orLnq1yPx1m2 cbO rfl Good.yes
            exact h
        · rcases hm with hm | hm
          · have h := tree_lawW hC (PC.Ok.app hq (PC.Ok.app hY (PC.Ok.app hE (PC.Ok.app hm (PC.Ok.app h31 hO))))) wideF orLnq1yPx2m1 cbO rfl Good.yes
            exact h
          · have h := tree_lawW hC (PC.Ok.app hq (PC.Ok.app hY (PC.Ok.app hE (PC.Ok.app hm (PC.Ok.app h31 hO))))) wideF orLnq1yPx2m2 cbO rfl Good.yes
            exact h
        · rcases hm with hm | hm
          · have h := tree_lawW hC (PC.Ok.app hq (PC.Ok.app hY (PC.Ok.app hE (PC.Ok.app hm (PC.Ok.app h31 hO))))) wideF orLnq1yPx3m1 cbO rfl Good.yes
            exact h
          · have h := tree_lawW hC (PC.Ok.app hq (PC.Ok.app hY (PC.Ok.app hE (PC.Ok.app hm (PC.Ok.app h31 hO))))) wideF orLnq1yPx3m2 cbO rfl Good.yes
            exact h
      · rcases hE with hE | hE | hE
        · rcases hm with hm | hm
          · have h := tree_lawW hC (PC.Ok.app hq (PC.Ok.app hY (PC.Ok.app hE (PC.Ok.app hm (PC.Ok.app h31 hO))))) wideF orLnq1yNx1m1 cbO rfl Good.yes
            exact h
          · have h := tree_lawW hC (PC.Ok.app hq (PC.Ok.app hY (PC.Ok.app hE (PC.Ok.app hm (PC.Ok.app h31 hO))))) wideF orLnq1yNx1m2 cbO rfl Good.yes
            exact h
        · rcases hm with hm | hm
          · have h := tree_lawW hC (PC.Ok.app hq (PC.Ok.app hY (PC.Ok.app hE (PC.Ok.app hm (PC.Ok.app h31 hO))))) wideF orLnq1yNx2m1 cbO rfl Good.yes
            exact h
          · have h := tree_lawW hC (PC.Ok.app hq (PC.Ok.app hY (PC.Ok.app hE (PC.Ok.app hm (PC.Ok.app h31 hO))))) wideF orLnq1yNx2m2 cbO rfl Good.yes
            exact h
        · rcases hm with hm | hm
          · have h := tree_lawW hC (PC.Ok.app hq (PC.Ok.app hY (PC.Ok.app hE (PC.Ok.app hm (PC.Ok.app h31 hO))))) wideF orLnq1yNx3m1 cbO rfl Good.yes
            exact h
          · have h := tree_lawW hC (PC.Ok.app hq (PC.Ok.app hY (PC.Ok.app hE (PC.Ok.app hm (PC.Ok.app h31 hO))))) wideF orLnq1yNx3m2 cbO rfl Good.yes
            exact h
    · rcases hY with hY | hY
      · rcases hE with hE | hE | hE
        · rcases hm with hm | hm
          · have h := tree_lawW hC (PC.Ok.app hq (PC.Ok.app hY (PC.Ok.app hE (PC.Ok.app hm (PC.Ok.app h31 hO))))) wideF orLnq2yPx1m1 cbO rfl Good.yes
            exact h
          · have h := tree_lawW hC (PC.Ok.app hq (PC.Ok.app hY (PC.Ok.app hE (PC.Ok.app hm (PC.Ok.app h31 hO))))) wideF orLnq2yPx1m2 cbO rfl Good.yes
            exact h
        · rcases hm with hm | hm
          · have h := tree_lawW hC (PC.Ok.app hq (PC.Ok.app hY (PC.Ok.app hE (PC.Ok.app hm (PC.Ok.app h31 hO))))) wideF orLnq2yPx2m1 cbO rfl Good.yes
            exact h
          · have h := tree_lawW hC (PC.Ok.app hq (PC.Ok.app hY (PC.Ok.app hE (PC.Ok.app hm (PC.Ok.app h31 hO))))) wideF orLnq2yPx2m2 cbO rfl Good.yes
            exact h
        · rcases hm with hm | hm
          · have h := tree_lawW hC (PC.Ok.app hq (PC.Ok.app hY (PC.Ok.app hE (PC.Ok.app hm (PC.Ok.app h31 hO))))) wideF orLnq2yPx3m1 cbO rfl Good.yes
            exact h
          · have h := tree_lawW hC (PC.Ok.app hq (PC.Ok.app hY (PC.Ok.app hE (PC.Ok.app hm (PC.Ok.app h31 hO))))) wideF orLnq2yPx3m2 cbO rfl Good.yes
            exact h
      · rcases hE with hE | hE | hE
        · rcases hm with hm | hm
          · have h := tree_lawW hC (PC.Ok.app hq (PC.Ok.app hY (PC.Ok.app hE (PC.Ok.app hm (PC.Ok.app h31 hO))))) wideF orLnq2yNx1m1 cbO rfl Good.yes
            exact h
          · have h := tree_lawW hC (PC.Ok.app hq (PC.Ok.app hY (PC.Ok.app hE (PC.Ok.app hm (PC.Ok.app h31 hO))))) wideF orLnq2yNx1m2 cbO rfl Good.yes
            exact h
        · rcases hm with hm | hm
          · have h := tree_lawW hC (PC.Ok.app hq (PC.Ok.app hY (PC.Ok.app hE (PC.Ok.app hm (PC.Ok.app h31 hO))))) wideF orLnq2yNx2m1 cbO rfl Good.yes
            exact h
          · have h := tree_lawW hC (PC.Ok.app hq (PC.Ok.app hY (PC.Ok.app hE (PC.Ok.app hm (PC.Ok.app h31 hO))))) wideF orLnq2yNx2m2 cbO rfl Good.yes
            exact h
        · rcases hm with hm | hm
          · have h := tree_lawW hC (PC.Ok.app hq (PC.Ok.app hY (PC.Ok.app hE (PC.Ok.app hm (PC.Ok.app h31 hO))))) wideF orLnq2yNx3m1 cbO rfl Good.yes
            exact h
          · have h := tree_lawW hC (PC.Ok.app hq (PC.Ok.app hY (PC.Ok.app hE (PC.Ok.app hm (PC.Ok.app h31 hO))))) wideF orLnq2yNx3m2 cbO rfl Good.yes
            exact h
  · have hC := oC_ok (X := 0) (Y := 0) ha hb hc he va vb vc hx (by omega)
    rw [hx] at hE
    have hO := hO (by omega)
    have hY := hY (by omega)
    have hab := cmpR_zero va vb hx
    have hq : PC.Ok (envX [a.1, a.2, b.1, b.2, c.1, c.2] [0, cmpR b c, 0, cmpR a c, (addR a c).1.1, (addR a c).1.2, (addR a c).2, (addR b c).1.1, (addR b c).1.2, (addR b c).2, cmpR (addR a c).1 (addR b c).1, floorR a, roundR a, floorR b, roundR b]) sameF := .cons' (show a.1 = b.1 by rw [hab]) (.cons' (show a.2 = b.2 by rw [hab]) .nil)
    rcases hY with hY | hY
    · rcases hE with hE | hE | hE
      · rcases hm with hm | hm
        · have h := tree_lawW hC (PC.Ok.app hq (PC.Ok.app hY (PC.Ok.app hE (PC.Ok.app hm (PC.Ok.app h31 hO))))) wideF orEsameFyPx1m1 cbO rfl Good.yes
          exact h
        · have h := tree_lawW hC (PC.Ok.app hq (PC.Ok.app hY (PC.Ok.app hE (PC.Ok.app hm (PC.Ok.app h31 hO))))) wideF orEsameFyPx1m2 cbO rfl Good.yes
          exact h
      · rcases hm with hm | hm
        · have h := tree_lawW hC (PC.Ok.app hq (PC.Ok.app hY (PC.Ok.app hE (PC.Ok.app hm (PC.Ok.app h31 hO))))) wideF orEsameFyPx2m1 cbO rfl Good.yes
          exact h
        · have h := tree_lawW hC (PC.Ok.app hq (PC.Ok.app hY (PC.Ok.app hE (PC.Ok.app hm (PC.Ok.app h31 hO))))) wideF orEsameFyPx2m2 cbO rfl Good.yes
          exact h
      · rcases hm with hm | hm
        · have h := tree_lawW hC (PC.Ok.app hq (PC.Ok.app hY (PC.Ok.app hE (PC.Ok.app hm (PC.Ok.app h31 hO))))) wideF orEsameFyPx3m1 cbO rfl Good.yes
          exact h
        · have h := tree_lawW hC (PC.Ok.app hq (PC.Ok.app hY (PC.Ok.app hE (PC.Ok.app hm (PC.Ok.app h31 hO))))) wideF orEsameFyPx3m2 cbO rfl Good.yes
          exact h
    · rcases hE with hE | hE | hE
      · rcases hm with hm | hm
        · have h := tree_lawW hC (PC.Ok.app hq (PC.Ok.app hY (PC.Ok.app hE (PC.Ok.app hm (PC.Ok.app h31 hO))))) wideF orEsameFyNx1m1 cbO rfl Good.yes
          exact h
        · have h := tree_lawW hC (PC.Ok.app hq (PC.Ok.app hY (PC.Ok.app hE (PC.Ok.app hm (PC.Ok.app h31 hO))))) wideF orEsameFyNx1m2 cbO rfl Good.yes
          exact h
      · rcases hm with hm | hm
        · have h := tree_lawW hC (PC.Ok.app hq (PC.Ok.app hY (PC.Ok.app hE (PC.Ok.app hm (PC.Ok.app h31 hO))))) wideF orEsameFyNx2m1 cbO rfl Good.yes
          exact h
        · have h := tree_lawW hC (PC.Ok.app hq (PC.Ok.app hY (PC.Ok.app hE (PC.Ok.app hm (PC.Ok.app h31 hO))))) wideF orEsameFyNx2m2 cbO rfl Good.yes
          exact h
      · rcases hm with hm | hm
        · have h := tree_lawW hC (PC.Ok.app hq (PC.Ok.app hY (PC.Ok.app hE (PC.Ok.app hm (PC.Ok.app h31 hO))))) wideF orEsameFyNx3m1 cbO rfl Good.yes
          exact h
        · have h := tree_lawW hC (PC.Ok.app hq (PC.Ok.app hY (PC.Ok.app hE (PC.Ok.app hm (PC.Ok.app h31 hO))))) wideF orEsameFyNx3m2 cbO rfl Good.yes
          exact h
  · have hC := oC_ok (X := 1) (Y := -1) ha hb hc he va vb vc hx (by omega)
    rw [hx] at hE
    have hq := hq (by omega)
    rcases hq with hq | hq
    · rcases hE with hE | hE | hE
      · rcases hm with hm | hm
        · have h := tree_lawW hC (PC.Ok.app hq (PC.Ok.app hE (PC.Ok.app hm h31))) wideF orGnq1x1m1 cbO rfl Good.yes
          exact h
        · have h := tree_lawW hC (PC.Ok.app hq (PC.Ok.app hE (PC.Ok.app hm h31))) wideF orGnq1x1m2 cbO rfl Good.yes
          exact h
      · rcases hm with hm | hm
        · have h := tree_lawW hC (PC.Ok.app hq (PC.Ok.app hE (PC.Ok.app hm h31))) wideF orGnq1x2m1 cbO rfl Good.yes
          exact h
        · have h := tree_lawW hC (PC.Ok.app hq (PC.Ok.app hE (PC.Ok.app hm h31))) wideF orGnq1x2m2 cbO rfl Good.yes
          exact h
      · rcases hm with hm | hm
        · have h := tree_lawW hC (PC.Ok.app hq (PC.Ok.app hE (PC.Ok.app hm h31))) wideF orGnq1x3m1 cbO rfl Good.yes
          exact h
        · have h := tree_lawW hC (PC.Ok.app hq (PC.Ok.app hE (PC.Ok.app hm h31))) wideF orGnq1x3m2 cbO rfl Good.yes
          exact h
    · rcases hE with hE | hE | hE
      · rcases hm with hm | hm
        · have h := tree_lawW hC (PC.Ok.app hq (PC.Ok.app hE (PC.Ok.app hm h31))) wideF orGnq2x1m1 cbO rfl Good.yes
          exact h
        · have h := tree_lawW hC (PC.Ok.app hq (PC.Ok.app hE (PC.Ok.app hm h31))) wideF orGnq2x1m2 cbO rfl Good.yes
          exact h
      · rcases hm with hm | hm
        · have h := tree_lawW hC (PC.Ok.app hq (PC.Ok.app hE (PC.Ok.app hm h31))) wideF orGnq2x2m1 cbO rfl Good.yes
          exact h
        · have h := tree_lawW hC (PC.Ok.app hq (PC.Ok.app hE (PC.Ok.app hm h31))) wideF orGnq2x2m2 cbO rfl Good.yes
          exact h
      · rcases hm with hm | hm
        · have h := tree_lawW hC (PC.Ok.app hq (PC.Ok.app hE (PC.Ok.app hm h31))) wideF orGnq2x3m1 cbO rfl Good.yes
          exact h
        · have h := tree_lawW hC (PC.Ok.app hq (PC.Ok.app hE (PC.Ok.app hm h31))) wideF orGnq2x3m2 cbO rfl Good.yes
          exact h
end Go.Proofs.YtinnlahmlepeeaaDoor
