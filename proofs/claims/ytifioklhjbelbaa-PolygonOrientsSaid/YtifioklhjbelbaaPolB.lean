/- PolygonOrients. -/
import Derived.Test.YtifioklhjbelbaaPolA
import Derived.Test.YtifioklhjbelbaaEzW
namespace Go.Proofs.Ytifioklhjbelbaa
open Go.RowKit
theorem po_tree : treeB Try.prog con1 [] 300 40 4 [.agg (iv 0 2), .agg (iv 2 2), .agg (iv 4 2)] = (.br (.le (.lit (-1000000)) (.at 0))
 (.br (.le (.at 0) (.lit (1000000)))
 (.br (.le (.lit (-1000000)) (.at 1))
 (.br (.le (.at 1) (.lit (1000000)))
 (.br (.le (.lit (-1000000)) (.at 2))
 (.br (.le (.at 2) (.lit (1000000)))
 (.br (.le (.lit (-1000000)) (.at 3))
 (.br (.le (.at 3) (.lit (1000000)))
 (.br (.le (.lit (-1000000)) (.at 4))
 (.br (.le (.at 4) (.lit (1000000)))
 (.br (.le (.lit (-1000000)) (.at 5))
 (.br (.le (.at 5) (.lit (1000000)))
 (.br (.lt (.sub (.mul (.sub (.at 2) (.at 0)) (.sub (.at 5) (.at 1))) (.mul (.sub (.at 3) (.at 1)) (.sub (.at 4) (.at 0)))) (.lit (0)))
 (.br (.lt (.sub (.mul (.sub (.at 0) (.at 2)) (.sub (.at 5) (.at 3))) (.mul (.sub (.at 1) (.at 3)) (.sub (.at 4) (.at 2)))) (.lit (0)))
 (.ret (.one (.bool (.lit false))))
 (.br (.lt (.lit (0)) (.sub (.mul (.sub (.at 0) (.at 2)) (.sub (.at 5) (.at 3))) (.mul (.sub (.at 1) (.at 3)) (.sub (.at 4) (.at 2)))))
 (.br (.lt (.sub (.mul (.sub (.at 4) (.at 2)) (.sub (.at 1) (.at 3))) (.mul (.sub (.at 5) (.at 3)) (.sub (.at 0) (.at 2)))) (.lit (0)))
 (.ret (.one (.bool (.lit true))))
 (.br (.lt (.lit (0)) (.sub (.mul (.sub (.at 4) (.at 2)) (.sub (.at 1) (.at 3))) (.mul (.sub (.at 5) (.at 3)) (.sub (.at 0) (.at 2)))))
 (.ret (.one (.bool (.lit false))))
 (.ret (.one (.bool (.lit false))))))
 (.ret (.one (.bool (.lit false))))))
 (.br (.lt (.lit (0)) (.sub (.mul (.sub (.at 2) (.at 0)) (.sub (.at 5) (.at 1))) (.mul (.sub (.at 3) (.at 1)) (.sub (.at 4) (.at 0)))))
 (.br (.lt (.sub (.mul (.sub (.at 0) (.at 2)) (.sub (.at 5) (.at 3))) (.mul (.sub (.at 1) (.at 3)) (.sub (.at 4) (.at 2)))) (.lit (0)))
 (.br (.lt (.sub (.mul (.sub (.at 4) (.at 2)) (.sub (.at 1) (.at 3))) (.mul (.sub (.at 5) (.at 3)) (.sub (.at 0) (.at 2)))) (.lit (0)))
 (.ret (.one (.bool (.lit false))))
 (.br (.lt (.lit (0)) (.sub (.mul (.sub (.at 4) (.at 2)) (.sub (.at 1) (.at 3))) (.mul (.sub (.at 5) (.at 3)) (.sub (.at 0) (.at 2)))))
 (.ret (.one (.bool (.lit true))))
 (.ret (.one (.bool (.lit false))))))
 (.br (.lt (.lit (0)) (.sub (.mul (.sub (.at 0) (.at 2)) (.sub (.at 5) (.at 3))) (.mul (.sub (.at 1) (.at 3)) (.sub (.at 4) (.at 2)))))
 (.ret (.one (.bool (.lit false))))
 (.ret (.one (.bool (.lit false))))))
 (.br (.lt (.sub (.mul (.sub (.at 0) (.at 2)) (.sub (.at 5) (.at 3))) (.mul (.sub (.at 1) (.at 3)) (.sub (.at 4) (.at 2)))) (.lit (0)))
 (.ret (.one (.bool (.lit false))))
 (.br (.lt (.lit (0)) (.sub (.mul (.sub (.at 0) (.at 2)) (.sub (.at 5) (.at 3))) (.mul (.sub (.at 1) (.at 3)) (.sub (.at 4) (.at 2)))))
 (.ret (.one (.bool (.lit false))))
 (.br (.lt (.sub (.mul (.sub (.at 4) (.at 2)) (.sub (.at 1) (.at 3))) (.mul (.sub (.at 5) (.at 3)) (.sub (.at 0) (.at 2)))) (.lit (0)))
 (.ret (.one (.bool (.lit false))))
 (.br (.lt (.lit (0)) (.sub (.mul (.sub (.at 4) (.at 2)) (.sub (.at 1) (.at 3))) (.mul (.sub (.at 5) (.at 3)) (.sub (.at 0) (.at 2)))))
 (.ret (.one (.bool (.lit false))))
 (.ret (.one (.bool (.lit true))))))))))
 (.ret (.one (.bool (.lit true)))))
 (.ret (.one (.bool (.lit true)))))
 (.ret (.one (.bool (.lit true)))))
 (.ret (.one (.bool (.lit true)))))
 (.ret (.one (.bool (.lit true)))))
 (.ret (.one (.bool (.lit true)))))
 (.ret (.one (.bool (.lit true)))))
 (.ret (.one (.bool (.lit true)))))
 (.ret (.one (.bool (.lit true)))))
 (.ret (.one (.bool (.lit true)))))
 (.ret (.one (.bool (.lit true)))))
 (.ret (.one (.bool (.lit true))))) := by kernel_rfl
theorem turn_neg (a b c d e f : Int) : (a - c) * (f - d) - (b - d) * (e - c) = -((c - a) * (f - b) - (d - b) * (e - a)) := by grind
theorem turn_cyc (a b c d e f : Int) : (e - c) * (b - d) - (f - d) * (a - c) = (c - a) * (f - b) - (d - b) * (e - a) := by grind
theorem orients_walk (a b c d e f : Int) (W : World) : Calls Try.prog 4 #[.agg #[.int .i64 a, .int .i64 b], .agg #[.int .i64 c, .int .i64 d], .agg #[.int .i64 e, .int .i64 f]] W fun r w' => r = .returned (.bool true) ∧ Below W.heap.size W w' := by
  have e2 := turn_neg a b c d e f
  have e3 := turn_cyc a b c d e f
  have i1 : ∀ v, BE.Is (envX [a, b, c, d, e, f] []) (.lt (.sub (.mul (.sub (.at 2) (.at 0)) (.sub (.at 5) (.at 1))) (.mul (.sub (.at 3) (.at 1)) (.sub (.at 4) (.at 0)))) (.lit (0))) v → if v then (c - a) * (f - b) - (d - b) * (e - a) < 0 else 0 ≤ (c - a) * (f - b) - (d - b) * (e - a) := fun v h => by cases v <;> exact h
  have i2 : ∀ v, BE.Is (envX [a, b, c, d, e, f] []) (.lt (.sub (.mul (.sub (.at 0) (.at 2)) (.sub (.at 5) (.at 3))) (.mul (.sub (.at 1) (.at 3)) (.sub (.at 4) (.at 2)))) (.lit (0))) v → if v then (a - c) * (f - d) - (b - d) * (e - c) < 0 else 0 ≤ (a - c) * (f - d) - (b - d) * (e - c) := fun v h => by cases v <;> exact h
  have i3 : ∀ v, BE.Is (envX [a, b, c, d, e, f] []) (.lt (.sub (.mul (.sub (.at 4) (.at 2)) (.sub (.at 1) (.at 3))) (.mul (.sub (.at 5) (.at 3)) (.sub (.at 0) (.at 2)))) (.lit (0))) v → if v then (e - c) * (b - d) - (f - d) * (a - c) < 0 else 0 ≤ (e - c) * (b - d) - (f - d) * (a - c) := fun v h => by cases v <;> exact h
  have j1 : ∀ v, BE.Is (envX [a, b, c, d, e, f] []) (.lt (.lit (0)) (.sub (.mul (.sub (.at 2) (.at 0)) (.sub (.at 5) (.at 1))) (.mul (.sub (.at 3) (.at 1)) (.sub (.at 4) (.at 0))))) v → if v then 0 < (c - a) * (f - b) - (d - b) * (e - a) else (c - a) * (f - b) - (d - b) * (e - a) ≤ 0 := fun v h => by cases v <;> exact h
  have j2 : ∀ v, BE.Is (envX [a, b, c, d, e, f] []) (.lt (.lit (0)) (.sub (.mul (.sub (.at 0) (.at 2)) (.sub (.at 5) (.at 3))) (.mul (.sub (.at 1) (.at 3)) (.sub (.at 4) (.at 2))))) v → if v then 0 < (a - c) * (f - d) - (b - d) * (e - c) else (a - c) * (f - d) - (b - d) * (e - c) ≤ 0 := fun v h => by cases v <;> exact h
  have j3 : ∀ v, BE.Is (envX [a, b, c, d, e, f] []) (.lt (.lit (0)) (.sub (.mul (.sub (.at 4) (.at 2)) (.sub (.at 1) (.at 3))) (.mul (.sub (.at 5) (.at 3)) (.sub (.at 0) (.at 2))))) v → if v then 0 < (e - c) * (b - d) - (f - d) * (a - c) else (e - c) * (b - d) - (f - d) * (a - c) ≤ 0 := fun v h => by cases v <;> exact h
  rw [e2] at i2 j2
  rw [e3] at i3 j3
  generalize (c - a) * (f - b) - (d - b) * (e - a) = D at i1 i2 i3 j1 j2 j3
  clear e2 e3
  refine tree_law (ρ := envX [a, b, c, d, e, f] []) (con1_ok _) .nil wide po_tree (by kernel_rfl) rfl ?_ W
  refine Good.br' (fun _ => ?_) (fun _ => Good.yes)
  refine Good.br' (fun _ => ?_) (fun _ => Good.yes)
  refine Good.br' (fun _ => ?_) (fun _ => Good.yes)
  refine Good.br' (fun _ => ?_) (fun _ => Good.yes)
  refine Good.br' (fun _ => ?_) (fun _ => Good.yes)
  refine Good.br' (fun _ => ?_) (fun _ => Good.yes)
  refine Good.br' (fun _ => ?_) (fun _ => Good.yes)
  refine Good.br' (fun _ => ?_) (fun _ => Good.yes)
  refine Good.br' (fun _ => ?_) (fun _ => Good.yes)
  refine Good.br' (fun _ => ?_) (fun _ => Good.yes)
  refine Good.br' (fun _ => ?_) (fun _ => Good.yes)
  refine Good.br' (fun _ => ?_) (fun _ => Good.yes)
  refine Good.br' (fun h0 => ?_) (fun h0 => ?_)
  · skip
    refine Good.br' (fun h1 => ?_) (fun h1 => ?_)
    · skip
      exfalso
      have qh0 := i1 true h0
      have qh1 := i2 true h1
      simp only [if_true] at qh0 qh1
      omega
    · skip
      refine Good.br' (fun h2 => ?_) (fun h2 => ?_)
      · skip
        refine Good.br' (fun h3 => ?_) (fun h3 => ?_)
        · skip
          exact Good.yes
        · skip
          refine Good.br' (fun h4 => ?_) (fun h4 => ?_)
          · skip
            exfalso
            have qh0 := i1 true h0
            have qh1 := i2 false h1
            have qh2 := j2 true h2
            have qh3 := i3 false h3
            have qh4 := j3 true h4
            simp only [if_true, Bool.false_eq_true, if_false] at qh0 qh1 qh2 qh3 qh4
            omega
          · skip
            exfalso
            have qh0 := i1 true h0
            have qh1 := i2 false h1
            have qh2 := j2 true h2
            have qh3 := i3 false h3
            have qh4 := j3 false h4
            simp only [if_true, Bool.false_eq_true, if_false] at qh0 qh1 qh2 qh3 qh4
            omega
      · skip
        exfalso
        have qh0 := i1 true h0
        have qh1 := i2 false h1
        have qh2 := j2 false h2
        simp only [if_true, Bool.false_eq_true, if_false] at qh0 qh1 qh2
        omega
  · skip
    refine Good.br' (fun h1 => ?_) (fun h1 => ?_)
    · skip
      refine Good.br' (fun h2 => ?_) (fun h2 => ?_)
      · skip
        refine Good.br' (fun h3 => ?_) (fun h3 => ?_)
        · skip
          exfalso
          have qh0 := i1 false h0
          have qh1 := j1 true h1
          have qh2 := i2 true h2
          have qh3 := i3 true h3
          simp only [if_true, Bool.false_eq_true, if_false] at qh0 qh1 qh2 qh3
          omega
        · skip
          refine Good.br' (fun h4 => ?_) (fun h4 => ?_)
          · skip
            exact Good.yes
          · skip
            exfalso
            have qh0 := i1 false h0
            have qh1 := j1 true h1
            have qh2 := i2 true h2
            have qh3 := i3 false h3
            have qh4 := j3 false h4
            simp only [if_true, Bool.false_eq_true, if_false] at qh0 qh1 qh2 qh3 qh4
            omega
      · skip
        refine Good.br' (fun h3 => ?_) (fun h3 => ?_)
        · skip
          exfalso
          have qh0 := i1 false h0
          have qh1 := j1 true h1
          have qh2 := i2 false h2
          have qh3 := j2 true h3
          simp only [if_true, Bool.false_eq_true, if_false] at qh0 qh1 qh2 qh3
          omega
        · skip
          exfalso
          have qh0 := i1 false h0
          have qh1 := j1 true h1
          have qh2 := i2 false h2
          have qh3 := j2 false h3
          simp only [if_true, Bool.false_eq_true, if_false] at qh0 qh1 qh2 qh3
          omega
    · skip
      refine Good.br' (fun h2 => ?_) (fun h2 => ?_)
      · skip
        exfalso
        have qh0 := i1 false h0
        have qh1 := j1 false h1
        have qh2 := i2 true h2
        simp only [if_true, Bool.false_eq_true, if_false] at qh0 qh1 qh2
        omega
      · skip
        refine Good.br' (fun h3 => ?_) (fun h3 => ?_)
        · skip
          exfalso
          have qh0 := i1 false h0
          have qh1 := j1 false h1
          have qh2 := i2 false h2
          have qh3 := j2 true h3
          simp only [if_true, Bool.false_eq_true, if_false] at qh0 qh1 qh2 qh3
          omega
        · skip
          refine Good.br' (fun h4 => ?_) (fun h4 => ?_)
          · skip
            exfalso
            have qh0 := i1 false h0
            have qh1 := j1 false h1
            have qh2 := i2 false h2
            have qh3 := j2 false h3
            have qh4 := i3 true h4
            simp only [if_true, Bool.false_eq_true, if_false] at qh0 qh1 qh2 qh3 qh4
            omega
          · skip
            refine Good.br' (fun h5 => ?_) (fun h5 => ?_)
            · skip
              exfalso
              have qh0 := i1 false h0
              have qh1 := j1 false h1
              have qh2 := i2 false h2
              have qh3 := j2 false h3
              have qh4 := i3 false h4
              have qh5 := j3 true h5
              simp only [if_true, Bool.false_eq_true, if_false] at qh0 qh1 qh2 qh3 qh4 qh5
              omega
            · skip
              exact Good.yes
end Go.Proofs.Ytifioklhjbelbaa
