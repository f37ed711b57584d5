/- The executor's laws: regions, bodies, calls; the tree of a call. -/
import Derived.Test.YtinnlahmlepeeaaDoorExG
namespace Go.Proofs.YtinnlahmlepeeaaDoor
open Go.RowKit
section
variable {ρ : EnvS} {P : Program}
structure Rel (ρ : EnvS) (α : Nat → Nat) (lo nt : Nat) (W : World) (s : St) (a : Act) (w : World) : Prop where
  pc : s.pc.Ok ρ
  ra : RA ρ α nt s.tm a
  rw_ : RW ρ α lo W w (fun id => s.h.get id)
  low : ∀ id b, s.h.get id = some b → id < s.next
  lo : lo ≤ s.next
theorem RW.drew {α : Nat → Nat} {lo : Nat} {W w : World} {h : Nat → Option Blk} (r : RW ρ α lo W w h) : RW ρ α lo W { w with drawn := w.drawn + 1 } h where
  bel := Below.drew r.bel
  blk := r.blk
  own := r.own
  arg := r.arg
  inj := r.inj
theorem reg_sound {call : CallF} {W0 : World} (hcall : CallOk P ρ W0 call) (hm : P.follows .mixedOrders = true) {lo nt : Nat} {W : World} (hW : Below W0.heap.size W0 W) {ops : Array Oper} {draw : Bool} {s s' : St} (hr : (regE P call lo nt ops draw s).pick ρ = some s') {α : Nat → Nat} {a : Act} {w : World}
    (rel : Rel ρ α lo nt W s a w) {id : Nat} {Q : Exit → Act → World → Prop} (hQ : ∀ α' a' w', Rel ρ α' lo nt W s' a' w' → Q .normal a' w') : (Code.region id ops draw).wp P Q a w := by
  unfold regE at hr
  split at hr
  case isFalse => exact (T.bad_some hr).elim
  rename_i hc
  simp only [Bool.and_eq_true, Bool.or_eq_true, Bool.not_eq_true'] at hc
  obtain ⟨⟨_, hbel⟩, hdst⟩ := hc
  obtain ⟨⟨pc, tm, h, rs⟩, h1, h2⟩ := T.bind_some hr
  simp only at h2
  split at h2
  case isFalse => exact (T.bad_some h2).elim
  rename_i hany
  have := T.ret_some h2
  subst this
  have hd : ∀ o ∈ ops.toList, ∀ t, o.dst = some t → t < nt := by
    intro o ho t ht
    have := List.all_eq_true.1 hdst o ho
    simp only [ht, Nat.blt_eq] at this
    exact this
  cases draw with
  | false =>
    refine wp_region ?_
    have := seq_sound hcall hW rel.lo hd (Q := Q) ops.toList 0 s.pc s.tm s.h [] (fun j => by rw [Nat.zero_add]; exact Array.getElem?_toList) h1 rel.pc rel.ra rel.rw_ (fun i b hb => by have := rel.low i b hb; omega)
      (fun α' a' w' q1 q2 q3 q4 => hQ α' a' w' ⟨q1, q2, q3, fun i b hb => by have := q4 i b hb; simp at this ⊢; omega, by have := rel.lo; simp; omega⟩)
    rwa [List.range_eq_range', ← Array.length_toList]
  | true =>
    refine wp_region_any hm ?_
    obtain ⟨tb, hb⟩ : Tm.below s.next s.tm = true ∧ Hp.below s.next s.h = true := by simpa using hbel
    have hany' : anyOk ops s.next rs = true := by simpa using hany
    obtain ⟨hlen, ok⟩ := anyOk_spec hany'
    obtain ⟨F, rs', e1, e2, e3, e4, e5, e6⟩ := seq_canon hcall ops.toList 0 s.pc s.tm s.h [] h1 rel.pc
    simp only [List.reverse_nil, List.nil_append] at e1
    subst e1
    have hF0 : F 0 = (s.tm, s.h) := e3
    have hFn : F ops.size = (tm, h) := by simpa using e4
    have hO : ∀ i, i < ops.size → ops[i]? = some (ops.getD i default) := fun i hi => by simp [Array.getD_eq_getD_getElem?, hi]
    have hF : ∀ i, i < ops.size → StepOk P ρ call lo s.next ops (F i) (F (i + 1)) (ops.getD i default) (rs.getD i default) i := by
      intro i hi
      have := e6 i (ops.getD i default) (rs.getD i default) (by rw [Array.getElem?_toList]; exact hO i hi) (by simp [hlen ▸ hi])
      simpa using this
    have hlow : ∀ k, k ≤ ops.size → ∀ i b, (F k).2.get i = some b → i < s.next + k := by
      intro k
      induction k with
      | zero => intro _ i b hb'; rw [hF0] at hb'; have := rel.low i b hb'; omega
      | succ k ih =>
        intro hk i b hb'
        obtain ⟨_, g2, pc', wt, hpc, _, g3⟩ := hF k (by omega)
        rw [g2] at hb'
        cases wt
        · simp only [Bool.false_eq_true, if_false] at g3
          rw [g3] at hb'
          have := ih (by omega) i b hb'
          omega
        · simp only [if_true] at g3
          obtain ⟨⟨pc2, g4⟩, _⟩ := g3
          have := app_low (opE_eff hpc g4) (ih (by omega)) i b hb'
          omega
    have hw : (fun j => (Array.replicate ops.size false).getD j false) = fun _ => false := by
      funext j
      simp only [Array.getD_eq_getD_getElem?, Array.getElem?_replicate]
      split <;> rfl
    have hSD : ∀ n, SD (fun i => ops.getD i default) (fun i => rs.getD i default) (F 0) (fun _ => false) n = F 0 := by
      intro n
      induction n with
      | zero => rfl
      | succ n ih => simp only [SD, Bool.false_eq_true, if_false, ih]
    refine any_sound hcall hW rel.lo (W := W) (nt := nt) ok hO (fun i hi t ht => hd _ (Array.mem_toList_iff.2 (Array.mem_of_getElem? (hO i hi))) t ht) hF (by rw [hF0]; exact tb) (by rw [hF0]; exact hb) (Q := Q)
      (fun α' a' w' q1 q2 => hQ α' a' w' ?_) ops.size (Array.replicate ops.size false) α a _ (by simp) ?_ ?_ ?_ ?_
    · rw [hFn] at q1 q2
      exact ⟨e5, q1, q2, fun i b hb' => by have := hlow ops.size (Nat.le_refl _) i b (by rw [hFn]; exact hb'); exact this, by have := rel.lo; simp only; omega⟩
    · rw [hw]; simp
    · rw [hw]; intro j _ hj; cases hj
    · rw [hw, hSD, hF0]; exact rel.ra
    · rw [hw, hSD, hF0]; exact rel.rw_.drew

def SXt.exit : SXt → Exit
  | .norm => .normal
  | .ex id => .exit id
  | .ret => .ret
theorem exec_sound {call : CallF} {W0 : World} (hcall : CallOk P ρ W0 call) (hm : P.follows .mixedOrders = true) {lo nt : Nat} {W : World} (hW : Below W0.heap.size W0 W) :
    ∀ (n : Nat) (c : Code) (s : St) {x : SXt} {s' : St} {α : Nat → Nat} {a : Act} {w : World} (Q : Exit → Act → World → Prop), (exec P call lo nt n c s).pick ρ = some (x, s') → Rel ρ α lo nt W s a w → (∀ α' a' w', Rel ρ α' lo nt W s' a' w' → Q x.exit a' w') →
      c.wp P Q a w ∧ ∀ body, c = .loop body → Code.rounds P body Q n a w
  | 0, c, s, x, s', α, a, w, Q, hr, _, _ => (T.bad_some hr).elim
  | n + 1, c, s, x, s', α, a, w, Q, hr, rel, hQ => by
    have triv : c.wp P Q a w → (∀ body, c ≠ .loop body) → c.wp P Q a w ∧ ∀ body, c = .loop body → Code.rounds P body Q (n + 1) a w := fun h1 h2 => ⟨h1, fun body e => absurd e (h2 body)⟩
    cases c with
    | skip =>
      have := T.ret_some hr
      cases this
      exact triv (wp_skip (hQ α a w rel)) (fun _ e => by cases e)
    | label l =>
      have := T.ret_some hr
      cases this
      exact triv (wp_label (hQ α a w rel)) (fun _ e => by cases e)
    | exit id =>
      have := T.ret_some hr
      cases this
      exact triv (wp_exit (hQ α a w rel)) (fun _ e => by cases e)
    | ret =>
      have := T.ret_some hr
      cases this
      exact triv (wp_ret (hQ α a w rel)) (fun _ e => by cases e)
    | region id ops draw =>
      simp only [exec] at hr
      obtain ⟨s1, h1, h2⟩ := T.bind_some hr
      have := T.ret_some h2
      cases this
      exact triv (reg_sound hcall hm hW h1 rel hQ) (fun _ e => by cases e)
    | seq c d =>
      simp only [exec] at hr
      obtain ⟨⟨y, s1⟩, h1, h2⟩ := T.bind_some hr
      refine triv (wp_seq ?_) (fun _ e => by cases e)
      refine (exec_sound hcall hm hW n c s _ h1 rel fun α' a' w' rel' => ?_).1
      cases y with
      | norm => exact (exec_sound hcall hm hW n d s1 Q h2 rel' hQ).1
      | ex id => have := T.ret_some h2; cases this; exact hQ α' a' w' rel'
      | ret => have := T.ret_some h2; cases this; exact hQ α' a' w' rel'
    | cond b c d =>
      simp only [exec] at hr
      split at hr
      · rename_i y hy
        obtain ⟨pc', h1, h2⟩ := T.cond_some rel.pc hr
        have hev : a.eval b = .bool (y.den ρ) := ev_den rel.ra hy
        refine triv (wp_cond hev ?_) (fun _ e => by cases e)
        exact (exec_sound hcall hm hW n _ _ Q h2 ⟨h1, rel.ra, rel.rw_, rel.low, rel.lo⟩ hQ).1
      · exact (T.bad_some hr).elim
    | block id body =>
      simp only [exec] at hr
      obtain ⟨⟨y, s1⟩, h1, h2⟩ := T.bind_some hr
      refine triv (wp_block ?_) (fun _ e => by cases e)
      refine (exec_sound hcall hm hW n body s _ h1 rel fun α' a' w' rel' => ?_).1
      cases y with
      | norm => have := T.ret_some h2; cases this; exact hQ α' a' w' rel'
      | ret => have := T.ret_some h2; cases this; exact hQ α' a' w' rel'
      | ex j =>
        simp only at h2
        split at h2
        · rename_i hj
          have := T.ret_some h2
          cases this
          have hj' := Nat.eq_of_beq_eq_true hj
          subst hj'
          show Exit.inBlock _ Q (.exit _) a' w'
          simp only [Exit.inBlock, if_true]
          exact hQ α' a' w' rel'
        · rename_i hj
          have := T.ret_some h2
          cases this
          have hj' : ¬ j = id := fun e => hj (by rw [e]; exact Nat.beq_refl id)
          show Exit.inBlock _ Q (.exit _) a' w'
          simp only [Exit.inBlock, hj', if_false]
          exact hQ α' a' w' rel'
    | loop body =>
      simp only [exec] at hr
      obtain ⟨⟨y, s1⟩, h1, h2⟩ := T.bind_some hr
      have key : Code.rounds P body Q (n + 1) a w := by
        rw [rounds_succ]
        refine (exec_sound hcall hm hW n body s _ h1 rel fun α' a' w' rel' => ?_).1
        cases y with
        | norm => exact (exec_sound hcall hm hW n (.loop body) s1 Q h2 rel' hQ).2 body rfl
        | ex id => have := T.ret_some h2; cases this; exact hQ α' a' w' rel'
        | ret => have := T.ret_some h2; cases this; exact hQ α' a' w' rel'
      exact ⟨wp_loop_rounds _ key, fun body' e => by cases e; exact key⟩
    | rangeFunc _ _ _ _ => exact (T.bad_some hr).elim
    | scope _ => exact (T.bad_some hr).elim
    | goto _ => exact (T.bad_some hr).elim
    | refuse _ => exact (T.bad_some hr).elim
end
end Go.Proofs.YtinnlahmlepeeaaDoor
