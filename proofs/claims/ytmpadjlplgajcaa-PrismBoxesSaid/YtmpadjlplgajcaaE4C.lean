/- The executor's laws: one operation. -/
import Derived.Test.YtmpadjlplgajcaaE4S
import Derived.OrdersIn
namespace Go.Proofs.Ytmpadjlplgajcaa
open Go.RowKit

/-- The fence that lets everything in, in a round or not. -/
def FW (rd : Option Nat) : Fence := { Fence.wide with round := rd }
theorem callsIn_FW {rd : Option Nat} {n : Nat} {P : Program} {f : FuncId} {args : Array Value} {w : World} {R : Ending → World → Prop} : CallsIn (FW rd) n P f args w R ↔ Calls P f args w R := callsIn_wide (n := n)
theorem roundIn_FW {rd rd' : Option Nat} {n : Nat} {P : Program} {l : Nat} {f : FuncId} {tmps : Array Value} {asg body : Code} {w : World} {R : Ending → World → Prop} (h : RoundIn (FW rd) n P l f tmps asg body w R) : RoundIn (FW rd') n P l f tmps asg body w R := h
def Does (P : Program) (rd : Option Nat) (o : Oper) (a : Act) (w : World) (R : Value → World → Prop) : Prop :=
  ∀ (K : Act → World → Prop) (Q : Exit → Act → World → Prop), (∀ v w', R v w' → K (a.put o.dst v) w') → o.wpIn (FW rd) 0 P a w K Q
section
variable {P : Program} {rd : Option Nat} {o : Oper} {a : Act} {w w' : World} {R : Value → World → Prop}
theorem does_of {x : Next} (hd : ∀ c, o.op ≠ .defer c) (h : (execOp a.eval o).run P w = .ok x w') (hk : ∀ (K : Act → World → Prop) (Q : Exit → Act → World → Prop), (∀ v w', R v w' → K (a.put o.dst v) w') → o.uponIn (FW rd) 0 P a K Q (.ok x w')) : Does P rd o a w R := fun K Q hK => by
  unfold Oper.wpIn
  refine ⟨fun _ _ => trivial, ?_⟩
  rw [Oper.semAt_eq _ _ _ hd, h]
  exact hk K Q hK
theorem Does.value {v : Value} (hd : ∀ c, o.op ≠ .defer c) (h : (execOp a.eval o).run P w = .ok (.value v) w') (hR : R v w') : Does P rd o a w R := does_of hd h fun _ _ hK => hK _ _ hR
theorem Does.skip (hd : ∀ c, o.op ≠ .defer c) (h : (execOp a.eval o).run P w = .ok .skip w') (hR : R undef w') : Does P rd o a w R := does_of hd h fun _ _ hK => hK _ _ hR
theorem Does.enter {f : FuncId} {args : Array Value} (hd : ∀ c, o.op ≠ .defer c) (h : (execOp a.eval o).run P w = .ok (.enter f args) w) (hc : Calls P f args w fun e w' => ∃ v, e = .returned v ∧ R v w') : Does P rd o a w R := does_of hd h fun K Q hK => by
  refine ⟨fun h => (by cases h), (callsIn_FW.2 hc).mono ?_⟩
  rintro e w' ⟨v, rfl, hR⟩
  exact hK _ _ hR
theorem Does.round {l : Nat} {f : FuncId} {tmps : Array Value} {asg body : Code} (hd : ∀ c, o.op ≠ .defer c) (h : (execOp a.eval o).run P w = .ok (.round l f tmps asg body) w) (hc : RoundIn (FW none) 0 P l f tmps asg body w fun e w' => ∃ v, e = .returned v ∧ R v w') : Does P rd o a w R := does_of hd h fun K Q hK => by
  refine ⟨fun h => (by cases h), (roundIn_FW hc).mono ?_⟩
  rintro e w' ⟨v, rfl, hR⟩
  exact hK _ _ hR
end
/-- The names from n on, below m. -/
def Rg (n m : Nat) (id : Nat) : Prop := n ≤ id ∧ id < m
/-- What an operation comes to. -/
def EffR (ρ : EnvS) (n : Nat) (α : Nat → Pl) (h : Vw) (w : World) (r : Res) (v : Value) (w' : World) : Prop :=
  ∃ α', v = r.v.den ρ α' ∧ Upd (Rg n r.n) ρ α α' h w w' r.f

section
variable {ρ : EnvS} {α : Nat → Pl} {P : Program}
theorem EffR.val {n m : Nat} {h : Vw} {w : World} {v : SV} {pc : PC} {tch : List Nat} : EffR ρ n α h w ⟨v, [], m, pc, tch⟩ (v.den ρ α) w := ⟨α, rfl, Upd.nil (Below.refl _ _)⟩
theorem val_some {n : Nat} {pc : PC} {x : Option SV} {r : Res} (h : (val n pc x).pick ρ = some r) : ∃ v, x = some v ∧ r = ⟨v, [], n, pc, []⟩ := by
  unfold Go.Proofs.Ytmpadjlplgajcaa.val at h
  split at h
  · rename_i v; exact ⟨v, rfl, (T.ret_some h).symm⟩
  · exact (T.bad_some h).elim
theorem valT_some {n : Nat} {pc : PC} {tch : List Nat} {x : Option SV} {r : Res} (h : (valT n pc tch x).pick ρ = some r) : ∃ v, x = some v ∧ r = ⟨v, [], n, pc, tch⟩ := by
  unfold valT at h
  split at h
  · rename_i v; exact ⟨v, rfl, (T.ret_some h).symm⟩
  · exact (T.bad_some h).elim
theorem evL_den {e : Operand → Option SV} {ev : Operand → Value} : ∀ {xs : List Operand} {vs : List SV}, evL e xs = some vs → (∀ x ∈ xs, ∀ s, e x = some s → ev x = s.den ρ α) → xs.map ev = vs.map (SV.den ρ α)
  | [], vs, h, _ => by simp [evL] at h; subst h; rfl
  | x :: xs, vs, h, he => by
    simp only [evL] at h
    split at h
    · rename_i v vs' h1 h2
      cases h
      simp only [List.map_cons]
      rw [he x (List.mem_cons_self ..) v h1, evL_den h2 (fun y hy => he y (List.mem_cons_of_mem _ hy))]
    · cases h
theorem evP_den {e : Operand → Option SV} {ev : Operand → Value} : ∀ {xs : List (Nat × Operand)} {vs : List (Nat × SV)}, evP e xs = some vs → (∀ x ∈ xs.map (·.2), ∀ s, e x = some s → ev x = s.den ρ α) →
    xs.map (fun p => (p.1, ev p.2)) = vs.map (fun p => (p.1, p.2.den ρ α))
  | [], vs, h, _ => by simp [evP] at h; subst h; rfl
  | (i, x) :: xs, vs, h, he => by
    simp only [evP] at h
    split at h
    · rename_i v vs' h1 h2
      cases h
      simp only [List.map_cons]
      rw [he x (by simp) v h1, evP_den h2 (fun y hy => he y (by simp at hy ⊢; exact .inr hy))]
    · cases h
/-- What is stored cell by cell from 'off' on. -/
theorem foldl_set (vs : List Value) : ∀ (cs : List Value) (off k : Nat), off + k + vs.length ≤ cs.length →
    (vs.zipIdx k).foldl (fun (c : Array Value) (x : Value × Nat) => c.setIfInBounds (off + x.2) x.1) cs.toArray = (putL cs (off + k) vs).toArray := by
  induction vs with
  | nil => intro cs off k _; simp [putL]
  | cons v vs ih =>
    intro cs off k h
    simp only [List.zipIdx_cons, List.foldl_cons, List.setIfInBounds_toArray]
    rw [ih (cs.set (off + k) v) off (k + 1) (by simp at h ⊢; omega)]
    congr 1
    simp only [List.length_cons] at h
    apply List.ext_getElem?
    intro i
    simp only [putL, List.append_assoc, List.getElem?_append, List.length_take, List.length_set, List.getElem?_take, List.getElem?_drop, List.getElem?_set, List.length_cons]
    rw [show min (off + (k + 1)) cs.length = off + k + 1 by omega, show min (off + k) cs.length = off + k by omega]
    by_cases h1 : i < off + k
    · have a1 : i < off + k + 1 := by omega
      have a2 : i < off + (k + 1) := by omega
      have a3 : off + k ≠ i := by omega
      simp [h1, a1, a2, a3]
    · by_cases h2 : i = off + k
      · subst h2
        have a4 : off + k < cs.length := by omega
        simp [a4, show off + k < off + (k + 1) by omega]
      · have a1 : ¬ i < off + k + 1 := by omega
        simp only [a1, h1, if_false]
        obtain ⟨j, rfl⟩ : ∃ j, i = off + k + 1 + j := ⟨i - (off + k + 1), by omega⟩
        rw [show off + k + 1 + j - (off + k + 1) = j by omega, show off + k + 1 + j - (off + k) = j + 1 by omega]
        simp only [List.getElem?_cons_succ]
        by_cases h3 : j < vs.length
        · simp [h3]
        · have a5 : ¬ j + 1 < vs.length + 1 := by omega
          simp only [h3, a5, if_false]
          have a6 : ¬ (off + k = off + (k + 1) + vs.length + (j - vs.length)) := by omega
          rw [if_neg a6]
          congr 1
          omega
theorem fillS_den {place : Nat → Option (Nat × Nat)} : ∀ {ps : List (Nat × SV)} {cs out : List SCl}, fillS place cs ps = some out →
    Instr.fill place (dens ρ α cs).toArray (ps.map fun p => (p.1, p.2.den ρ α)) = some (dens ρ α out).toArray
  | [], cs, out, h => by simp [fillS] at h; subst h; simp [Instr.fill]
  | (i, v) :: ps, cs, out, h => by
    simp only [fillS] at h
    split at h
    · rename_i off size vs h1 h2
      split at h
      · rename_i hc
        simp at hc
        obtain ⟨hl, hle⟩ := hc
        have hcells := cells_den ρ α h2
        simp only [List.map_cons, Instr.fill, h1, hcells]
        have hs : (dens ρ α vs).toArray.size = size := by simp [hl]
        have hs2 : (dens ρ α cs).toArray.size = cs.length := by simp
        rw [hs, hs2]
        have hno : ¬ ((size != size || decide (off + size > cs.length)) = true) := by simp; omega
        simp only [ne_eq, not_true_eq_false, decide_false, Bool.false_or, decide_eq_true_eq]
        rw [if_neg (by omega)]
        have hf := foldl_set (dens ρ α vs) (dens ρ α cs) off 0 (by simp; omega)
        have := fillS_den h
        rw [← this]
        congr 1
        rw [← Array.foldl_toList]
        have e : (dens ρ α vs).toArray.zipIdx.toList = (dens ρ α vs).zipIdx := by simp
        rw [e]
        refine hf.trans ?_
        simp [putL, List.map_append, List.map_take, List.map_drop]
      · cases h
    · cases h

/-- Equality of cells, as values. -/
def eqV : Bool → Value → Value → Option Bool
  | true, .int k a, .int l b => if k = l then some (a == b) else none
  | false, .bool a, .bool b => some (a == b)
  | _, _, _ => none
def eqVs : List Bool → List Value → List Value → Option Bool
  | [], [], [] => some true
  | k :: ks, a :: as, b :: bs => match eqV k a b, eqVs ks as bs with
    | some x, some y => some (x && y)
    | _, _ => none
  | _, _, _ => none
theorem eqCell_den {k : Bool} {a b : SCl} {c : BE} (h : eqCell k a b = some c) : eqV k (a.den ρ α) (b.den ρ α) = some (c.den ρ) := by
  unfold eqCell at h
  split at h
  · rename_i k x l y
    split at h
    · rename_i hk
      cases h
      simp [eqV, SCl.den, same_kind hk, BE.eqS_den]
    · cases h
  · cases h; simp [eqV, SCl.den, BE.den]
  · cases h; simp [eqV, SCl.den, BE.den, BE.notS_den]
  · cases h; simp [eqV, SCl.den, BE.den]
  · cases h; simp [eqV, SCl.den, BE.den, BE.notS_den]
  · cases h
theorem eqCells_den : ∀ {ks : List Bool} {as bs : List SCl} {c : BE}, eqCells ks as bs = some c → eqVs ks (dens ρ α as) (dens ρ α bs) = some (c.den ρ)
  | [], [], [], c, h => by simp [eqCells] at h; subst h; rfl
  | k :: ks, a :: as, b :: bs, c, h => by
    simp only [eqCells] at h
    split at h
    · rename_i x y h1 h2
      cases h
      simp [eqVs, eqCell_den (α := α) h1, eqCells_den h2, BE.andS_den]
    · cases h
  | [], [], _ :: _, c, h => by simp [eqCells] at h
  | [], _ :: _, _, c, h => by simp [eqCells] at h
  | _ :: _, [], _, c, h => by simp [eqCells] at h
  | _ :: _, _ :: _, [], c, h => by simp [eqCells] at h
theorem eqVs_len : ∀ {ks : List Bool} {xs ys : List Value} {r : Bool}, eqVs ks xs ys = some r → xs.length = ks.length ∧ ys.length = ks.length
  | [], [], [], _, _ => ⟨rfl, rfl⟩
  | k :: ks, x :: xs, y :: ys, r, h => by
    simp only [eqVs] at h
    split at h
    · rename_i a b h1 h2; have := eqVs_len h2; simp [this.1, this.2]
    · cases h
  | [], [], _ :: _, c, h => by simp [eqVs] at h
  | [], _ :: _, _, c, h => by simp [eqVs] at h
  | _ :: _, [], _, c, h => by simp [eqVs] at h
  | _ :: _, _ :: _, [], c, h => by simp [eqVs] at h
theorem eqVs_append : ∀ {ks ls : List Bool} {xs ys : List Value} {r : Bool}, eqVs (ks ++ ls) xs ys = some r →
    ∃ p q, eqVs ks (xs.take ks.length) (ys.take ks.length) = some p ∧ eqVs ls (xs.drop ks.length) (ys.drop ks.length) = some q ∧ r = (p && q)
  | [], ls, xs, ys, r, h => ⟨true, r, rfl, by simpa using h, by simp⟩
  | k :: ks, ls, x :: xs, y :: ys, r, h => by
    simp only [List.cons_append, eqVs] at h
    split at h
    · rename_i a b h1 h2
      cases h
      obtain ⟨p, q, h3, h4, rfl⟩ := eqVs_append h2
      exact ⟨a && p, q, by simp [eqVs, h1, h3], by simpa using h4, by simp [Bool.and_assoc]⟩
    · cases h
  | k :: ks, ls, [], ys, r, h => by simp [eqVs] at h
  | k :: ks, ls, x :: xs, [], r, h => by simp [eqVs] at h
/-- The value of type t in the window of m cells. -/
def winV (P : Program) (t : TypeId) (xs : List Value) : Value := match isAggT P t with | some true => .agg xs.toArray | _ => match xs with | x :: _ => x | [] => undef
theorem flatT_size : ∀ {d : Nat} {t : TypeId} {m : List Bool}, flatT P d t = some m → sizeT P t = some m.length
  | 0, t, m, h => by simp [flatT] at h
  | d + 1, t, m, h => by
    simp only [flatT] at h
    split at h
    · split at h
      · rename_i hs; cases h; simpa using hs
      · cases h
    · split at h
      · rename_i hs; cases h; simpa using hs
      · cases h
    · split at h
      · cases h
      · split at h
        · split at h
          · rename_i hs; cases h; simpa using hs
          · cases h
        · cases h
    · cases h
theorem part_win {t : TypeId} {m : Nat} {xs : List Value} {off : Nat} (hs : sizeT P t = some m) (hagg : (isAggT P t).isSome = true) (h1 : isAggT P t = some false → 0 < m ∧ off + m ≤ xs.length) (w : World) :
    (part t xs.toArray off).run P w = .ok (winV P t ((xs.drop off).take m)) w := by
  cases hq : isAggT P t with
  | none => simp [hq] at hagg
  | some b =>
    cases b
    · obtain ⟨hm, hle⟩ := h1 hq
      have hlt : off < xs.length := by omega
      simp only [part, Sem.run_bind, isAgg_run hq, Result.andThen_ok, Bool.false_eq_true, if_false]
      have e : xs.toArray[off]? = some xs[off] := by simp [hlt]
      simp only [e, Sem.run_pure]
      congr 1
      unfold winV
      simp only [hq]
      have : (xs.drop off).take m = xs[off] :: ((xs.drop (off + 1)).take (m - 1)) := by
        rw [List.drop_eq_getElem_cons hlt]
        obtain ⟨k, rfl⟩ : ∃ k, m = k + 1 := ⟨m - 1, by omega⟩
        rw [List.take_succ_cons, Nat.add_sub_cancel]
      rw [this]
    · simp only [part, Sem.run_bind, isAgg_run hq, Result.andThen_ok, if_true, sizeOf_run' hs, Sem.run_pure]
      congr 1
      unfold winV
      simp [hq, List.extract_eq_take_drop]
theorem flatT_agg {d : Nat} {t : TypeId} {m : List Bool} (h : flatT P d t = some m) : (isAggT P t).isSome = true ∧ (isAggT P t = some false → m.length = 1) := by
  cases d with
  | zero => simp [flatT] at h
  | succ d =>
    unfold isAggT
    simp only [flatT] at h
    split at h
    · rename_i e
      rw [e]
      split at h
      · cases h; simp
      · cases h
    · rename_i e
      rw [e]
      split at h
      · cases h; simp
      · cases h
    · rename_i e; rw [e]; simp
    · cases h
theorem eqOne {k : Bool} {xs ys : List Value} {r : Bool} (he : eqVs [k] xs ys = some r) : ∃ x y, xs = [x] ∧ ys = [y] ∧ eqV k x y = some r := by
  obtain ⟨h1, h2⟩ := eqVs_len he
  match xs, ys, h1, h2, he with
  | [x], [y], _, _, he =>
    refine ⟨x, y, rfl, rfl, ?_⟩
    simp only [eqVs] at he
    split at he
    · rename_i a b h1 h2
      cases h2
      cases he
      simpa using h1
    · cases he
theorem eqFields {D : Nat} {d : Nat} (ih : ∀ {t : TypeId} {m : List Bool}, flatT P d t = some m → ∀ {xs ys : List Value} {r : Bool}, eqVs m xs ys = some r → ∀ w : World, (Op.equalIn D t (winV P t xs) (winV P t ys)).run P w = .ok r w) :
    ∀ {fs : List Field} {n : Nat} {ms : List Bool}, flatF P (flatT P d) fs n = some ms → ∀ {xs ys : List Value} {r : Bool}, eqVs ms (xs.drop n) (ys.drop n) = some r → ∀ w : World,
      (Op.eqFields D xs.toArray ys.toArray fs).run P w = .ok r w
  | [], n, ms, h, xs, ys, r, he, w => by
    simp [flatF] at h
    subst h
    obtain ⟨h1, h2⟩ := eqVs_len he
    have e1 : xs.drop n = [] := List.eq_nil_of_length_eq_zero h1
    have e2 : ys.drop n = [] := List.eq_nil_of_length_eq_zero h2
    rw [e1, e2] at he
    simp [eqVs] at he
    subst he
    simp [Op.eqFields]
  | f :: fs, n, ms, h, xs, ys, r, he, w => by
    simp only [flatF] at h
    split at h
    · rename_i m hm
      split at h
      · rename_i hc
        simp at hc
        obtain ⟨ho, hn⟩ := hc
        rw [Option.map_eq_some_iff] at h
        obtain ⟨ks, hks, rfl⟩ := h
        obtain ⟨hl1, hl2⟩ := eqVs_len he
        simp only [List.length_append, List.length_drop] at hl1 hl2
        obtain ⟨p, q, h3, h4, rfl⟩ := eqVs_append he
        obtain ⟨g1, g2⟩ := flatT_agg hm
        have hpos : ∀ zs : List Value, zs.length - n = m.length + ks.length → isAggT P f.type = some false → 0 < m.length ∧ n + m.length ≤ zs.length := fun zs hz e => by have := g2 e; omega
        simp only [Op.eqFields, hn, ne_eq, not_false_eq_true, if_true, Sem.run_bind, ho]
        rw [part_win (flatT_size hm) g1 (hpos xs hl1) w, Result.andThen_ok, part_win (flatT_size hm) g1 (hpos ys hl2) w, Result.andThen_ok, ih hm h3 w]
        simp only [Result.andThen_ok]
        cases p
        · simp
        · simp only [Bool.not_true, Bool.false_eq_true, if_false, Bool.true_and]
          rw [List.drop_drop, List.drop_drop] at h4
          exact eqFields ih hks h4 w
      · cases h
    · cases h
theorem eqFlat : ∀ {d : Nat} {t : TypeId} {m : List Bool}, flatT P d t = some m → ∀ (D : Nat), d ≤ D → ∀ (xs ys : List Value) (r : Bool), eqVs m xs ys = some r → ∀ w : World,
    (Op.equalIn D t (winV P t xs) (winV P t ys)).run P w = .ok r w
  | 0, t, m, h => by simp [flatT] at h
  | d + 1, t, m, h => by
    intro D hD xs ys r he w
    obtain ⟨D, rfl⟩ : ∃ k, D = k + 1 := ⟨D - 1, by omega⟩
    have hD' : d ≤ D := by omega
    simp only [flatT] at h
    split at h
    · rename_i k e
      split at h
      · cases h
        obtain ⟨x, y, rfl, rfl, hv⟩ := eqOne he
        have hagg : isAggT P t = some false := by unfold isAggT; rw [e]
        simp only [winV, hagg]
        unfold eqV at hv
        split at hv
        · split at hv
          · rename_i hk; subst hk; cases hv; exact run_equalIn_int w D t _ k _ _ e
          · cases hv
        · rename_i hk; cases hk
        · cases hv
      · cases h
    · rename_i e
      split at h
      · cases h
        obtain ⟨x, y, rfl, rfl, hv⟩ := eqOne he
        have hagg : isAggT P t = some false := by unfold isAggT; rw [e]
        simp only [winV, hagg]
        unfold eqV at hv
        split at hv
        · rename_i hk; cases hk
        · cases hv; exact run_equalIn_bool w D t _ _ e
        · cases hv
      · cases h
    · rename_i fs e
      split at h
      · cases h
      · rename_i hp
        split at h
        · rename_i n hn
          split at h
          · rename_i hs
            cases h
            have hagg : isAggT P t = some true := by unfold isAggT; rw [e]
            have hf : P.fieldsOf t = fs := by unfold Program.fieldsOf; rw [e]
            simp only [winV, hagg]
            rw [run_equalIn_struct w D t _ _ (by rw [hf]; exact e) (by simpa using hp), hf]
            exact eqFields (fun {t m} h1 {xs ys r} h2 w => eqFlat h1 D hD' xs ys r h2 w) hn (by simpa using he) w
          · cases h
        · cases h
    · cases h
end
end Go.Proofs.Ytmpadjlplgajcaa
