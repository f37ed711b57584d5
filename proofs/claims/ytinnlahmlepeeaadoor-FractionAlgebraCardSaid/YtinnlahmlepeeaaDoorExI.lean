/- The executor's laws: a call; its tree. -/
import Derived.Test.YtinnlahmlepeeaaDoorExH
namespace Go.Proofs.YtinnlahmlepeeaaDoor
open Go.RowKit
section
variable {ρ : EnvS} {P : Program}
theorem SCl.same_eq {a b : SCl} (h : a.same b = true) : a = b := by
  cases a <;> cases b <;> simp [SCl.same] at h
  · rw [same_kind h.1, IE.same_eq _ _ h.2]
  · rw [BE.same_eq _ _ h]
theorem sameL_eq : ∀ {as bs : List SCl}, sameL as bs = true → as = bs
  | [], [], _ => rfl
  | a :: as, b :: bs, h => by
    simp only [sameL, Bool.and_eq_true] at h
    rw [SCl.same_eq h.1, sameL_eq h.2]
  | [], _ :: _, h => by simp [sameL] at h
  | _ :: _, [], h => by simp [sameL] at h
theorem SV.same_eq {a b : SV} (h : a.same b = true) : a = b := by
  cases a <;> cases b <;> simp [SV.same] at h
  · rw [SCl.same_eq h]
  · rw [sameL_eq h]
theorem sameVs_eq : ∀ {as bs : List SV}, sameVs as bs = true → as = bs
  | [], [], _ => rfl
  | a :: as, b :: bs, h => by
    simp only [sameVs, Bool.and_eq_true] at h
    rw [SV.same_eq h.1, sameVs_eq h.2]
  | [], _ :: _, h => by simp [sameVs] at h
  | _ :: _, [], h => by simp [sameVs] at h
/-- What is known of calls is so. -/
def ConOk (P : Program) (ρ : EnvS) (con : Con) : Prop :=
  ∀ f args v, (f, args, v) ∈ con → ∀ (α : Nat → Nat) (w : World), Calls P f (args.map (SV.den ρ α)).toArray w (fun e w' => e = .returned (v.den ρ α) ∧ Below w.heap.size w w')
/-- What is known of calls is so in every world that lies behind W0. -/
def ConOkW (P : Program) (ρ : EnvS) (W0 : World) (con : Con) : Prop :=
  ∀ f args v, (f, args, v) ∈ con → ∀ (α : Nat → Nat) (w : World), Below W0.heap.size W0 w → Calls P f (args.map (SV.den ρ α)).toArray w (fun e w' => e = .returned (v.den ρ α) ∧ Below w.heap.size w w')
theorem ConOk.at {con : Con} (h : ConOk P ρ con) (W0 : World) : ConOkW P ρ W0 con := fun f args v hm α w _ => h f args v hm α w
theorem con_find {con : Con} {f : FuncId} {args : List SV} {v : SV} (h : Con.find f args con = some v) : (f, args, v) ∈ con := by
  induction con with
  | nil => simp [Con.find] at h
  | cons x r ih =>
    obtain ⟨g, as, u⟩ := x
    simp only [Con.find] at h
    split at h
    · rename_i hc
      simp only [Bool.and_eq_true] at hc
      cases h
      rw [← Nat.eq_of_beq_eq_true hc.1, ← sameVs_eq hc.2]
      exact List.mem_cons_self ..
    · exact List.mem_cons_of_mem _ (ih h)
theorem tmU_get : ∀ (i k t : Nat) (s : SV), (tmU i k).get t = some s → i ≤ t ∧ (List.replicate k (SV.tup []))[t - i]? = some s
  | i, 0, t, s, h => by simp [tmU, Tm.get] at h
  | i, k + 1, t, s, h => by
    simp only [tmU, Tm.get_cons] at h
    split at h
    · rename_i e; cases h; subst e; simp
    · rename_i e
      obtain ⟨h1, h2⟩ := tmU_get (i + 1) k t s h
      refine ⟨by omega, ?_⟩
      obtain ⟨j, rfl⟩ : ∃ j, t = i + 1 + j := ⟨t - (i + 1), by omega⟩
      rw [show i + 1 + j - (i + 1) = j by omega] at h2
      rw [show i + 1 + j - i = j + 1 by omega, List.replicate_succ, List.getElem?_cons_succ]
      exact h2
theorem tm0_get : ∀ (vs : List SV) (i k t : Nat) (s : SV), (tm0 vs i k).get t = some s → i ≤ t ∧ (vs ++ List.replicate (k - vs.length) (SV.tup []))[t - i]? = some s
  | [], i, k, t, s, h => by
    have := tmU_get i k t s h
    simpa using this
  | v :: vs, i, k, t, s, h => by
    simp only [tm0, Tm.get_cons] at h
    split at h
    · rename_i e; cases h; subst e; simp
    · rename_i e
      obtain ⟨h1, h2⟩ := tm0_get vs (i + 1) (k - 1) t s h
      refine ⟨by omega, ?_⟩
      obtain ⟨j, rfl⟩ : ∃ j, t = i + 1 + j := ⟨t - (i + 1), by omega⟩
      rw [show i + 1 + j - (i + 1) = j by omega] at h2
      rw [show i + 1 + j - i = j + 1 by omega, List.cons_append, List.getElem?_cons_succ, List.length_cons, show k - (vs.length + 1) = k - 1 - vs.length by omega]
      exact h2
def resOf (tmps : Array Value) : ResultVar → Sem Value
  | .tmp t => pure (tmps.getD t undef)
  | .cell x t => do loadVar t (← asAddr (tmps.getD x undef))
theorem resV_run {α : Nat → Nat} {lo nt : Nat} {W : World} {s : St} {a : Act} {w : World} (rel : Rel ρ α lo nt W s a w) {r : ResultVar} {v : SV} (h : resV P s.tm s.h r = some v) :
    (resOf a.tmps r).run P w = .ok (v.den ρ α) w := by
  cases r with
  | tmp t =>
    have := rel.ra.get t v h
    simp [resOf, Array.getD_eq_getD_getElem?, this]
  | cell x t =>
    simp only [resV] at h
    split at h
    · rename_i id off hx
      split at h
      · rename_i b hb
        have h1 := rel.ra.get x _ hx
        have h2 : a.tmps.getD x undef = .pointer (some ⟨α id, off, none⟩) := by simp [Array.getD_eq_getD_getElem?, h1, SV.den, SCl.den]
        simp only [resOf, h2, asAddr, Sem.run_bind, Sem.run_pure, Result.andThen_ok]
        exact loadVar_run (rel.rw_.blk id b hb) h
      · cases h
    · cases h
theorem resL_run {α : Nat → Nat} {lo nt : Nat} {W : World} {s : St} {a : Act} {w : World} (rel : Rel ρ α lo nt W s a w) : ∀ {rs : List ResultVar} {vs : List SV}, resL P s.tm s.h rs = some vs →
    (rs.mapM (resOf a.tmps)).run P w = Result.ok (vs.map (SV.den ρ α)) w
  | [], vs, h => by simp [resL] at h; subst h; rfl
  | r :: rs, vs, h => by
    simp only [resL] at h
    split at h
    · rename_i v vs' h1 h2
      cases h
      rw [List.mapM_cons, Sem.run_bind, resV_run rel h1, Result.andThen_ok, Sem.run_bind, resL_run rel h2]
      rfl
    · cases h
theorem results_eq (fn : Func) (tmps : Array Value) : results fn tmps = (do let vs ← fn.results.mapM (resOf tmps); pure (if h : vs.size = 1 then vs[0] else .tuple vs)) := by
  unfold results
  congr 1
theorem s1_den {α : Nat → Nat} {v : SV} {s : S1} (h : v.s1 = some s) : s.den ρ α = v.den ρ α := by
  cases v <;> simp [SV.s1] at h <;> subst h <;> rfl
theorem s1L_den {α : Nat → Nat} : ∀ {vs : List SV} {ss : List S1}, s1L vs = some ss → ss.map (S1.den ρ α) = vs.map (SV.den ρ α)
  | [], ss, h => by simp [s1L] at h; subst h; rfl
  | v :: vs, ss, h => by
    simp only [s1L] at h
    split at h
    · rename_i s r h1 h2
      cases h
      simp only [List.map_cons, s1_den h1, s1L_den h2]
    · cases h
theorem resE_run {α : Nat → Nat} {lo nt : Nat} {W : World} {s : St} {a : Act} {w : World} (rel : Rel ρ α lo nt W s a w) {fn : Func} {v : SV} (h : resE P fn s = some v) : (results fn a.tmps).run P w = .ok (v.den ρ α) w := by
  unfold resE at h
  have hrun : ∀ {vs : List SV}, resL P s.tm s.h fn.results.toList = some vs → (results fn a.tmps).run P w = .ok (if h : (vs.map (SV.den ρ α)).toArray.size = 1 then (vs.map (SV.den ρ α)).toArray[0] else .tuple (vs.map (SV.den ρ α)).toArray) w := by
    intro vs hvs
    have := resL_run rel hvs
    rw [results_eq]
    rw [Array.mapM_eq_mapM_toList, Sem.run_bind, Sem.run_map]
    rw [this]
    rfl
  split at h
  · rename_i v' hv
    cases h
    rw [hrun hv]
    rfl
  · rename_i vs hne hv
    rw [Option.map_eq_some_iff] at h
    obtain ⟨ss, hss, rfl⟩ := h
    rw [hrun hv]
    have hlen : (vs.map (SV.den ρ α)).toArray.size ≠ 1 := by
      intro he
      simp at he
      match vs, he with
      | [x], _ => exact hne x rfl
    rw [dif_neg hlen]
    simp only [SV.den, s1L_den hss]
  · cases h
theorem reg_pc {call : CallF} {W0 : World} (hcall : CallOk P ρ W0 call) {lo nt : Nat} {ops : Array Oper} {draw : Bool} {s s' : St} (hr : (regE P call lo nt ops draw s).pick ρ = some s') (hpc : s.pc.Ok ρ) : s'.pc.Ok ρ := by
  unfold regE at hr
  split at hr
  case isFalse => exact (T.bad_some hr).elim
  obtain ⟨⟨pc, tm, h, rs⟩, h1, h2⟩ := T.bind_some hr
  simp only at h2
  split at h2
  case isFalse => exact (T.bad_some h2).elim
  have := T.ret_some h2
  subst this
  obtain ⟨_, _, _, _, _, _, e5, _⟩ := seq_canon hcall ops.toList 0 s.pc s.tm s.h [] h1 hpc
  exact e5
theorem exec_pc {call : CallF} {W0 : World} (hcall : CallOk P ρ W0 call) {lo nt : Nat} : ∀ (n : Nat) (c : Code) (s : St) {x : SXt} {s' : St}, (exec P call lo nt n c s).pick ρ = some (x, s') → s.pc.Ok ρ → s'.pc.Ok ρ
  | 0, c, s, x, s', hr, _ => (T.bad_some hr).elim
  | n + 1, c, s, x, s', hr, hpc => by
    cases c with
    | skip => have := T.ret_some hr; cases this; exact hpc
    | label l => have := T.ret_some hr; cases this; exact hpc
    | exit id => have := T.ret_some hr; cases this; exact hpc
    | ret => have := T.ret_some hr; cases this; exact hpc
    | region id ops draw =>
      simp only [exec] at hr
      obtain ⟨s1, h1, h2⟩ := T.bind_some hr
      have := T.ret_some h2
      cases this
      exact reg_pc hcall h1 hpc
    | seq c d =>
      simp only [exec] at hr
      obtain ⟨⟨y, s1⟩, h1, h2⟩ := T.bind_some hr
      have hp := exec_pc hcall n c s h1 hpc
      cases y with
      | norm => exact exec_pc hcall n d s1 h2 hp
      | ex id => have := T.ret_some h2; cases this; exact hp
      | ret => have := T.ret_some h2; cases this; exact hp
    | cond b c d =>
      simp only [exec] at hr
      split at hr
      · obtain ⟨pc', h1, h2⟩ := T.cond_some hpc hr
        exact exec_pc hcall n _ _ h2 h1
      · exact (T.bad_some hr).elim
    | block id body =>
      simp only [exec] at hr
      obtain ⟨⟨y, s1⟩, h1, h2⟩ := T.bind_some hr
      have hp := exec_pc hcall n body s h1 hpc
      cases y with
      | norm => have := T.ret_some h2; cases this; exact hp
      | ret => have := T.ret_some h2; cases this; exact hp
      | ex j =>
        simp only at h2
        split at h2 <;> (have := T.ret_some h2; cases this; exact hp)
    | loop body =>
      simp only [exec] at hr
      obtain ⟨⟨y, s1⟩, h1, h2⟩ := T.bind_some hr
      have hp := exec_pc hcall n body s h1 hpc
      cases y with
      | norm => exact exec_pc hcall n _ s1 h2 hp
      | ex id => have := T.ret_some h2; cases this; exact hp
      | ret => have := T.ret_some h2; cases this; exact hp
    | rangeFunc _ _ _ _ => exact (T.bad_some hr).elim
    | scope _ => exact (T.bad_some hr).elim
    | goto _ => exact (T.bad_some hr).elim
    | refuse _ => exact (T.bad_some hr).elim
theorem callE_sound {con : Con} {W0 : World} (hcon : ConOkW P ρ W0 con) (hm : P.follows .mixedOrders = true) (fuel : Nat) : ∀ d, CallOk P ρ W0 (callE P con fuel d)
  | 0 => fun f args hp nx pc v pc' _ hr _ _ _ => (T.bad_some hr).elim
  | d + 1 => by
    intro f args hp nx pc v pc' hpc hr hcb hargs hhp
    simp only [callE] at hr
    split at hr
    · rename_i u hu
      have := T.ret_some hr
      cases this
      exact ⟨hpc, fun _ α w hw _ => hcon f args v (con_find hu) α w hw⟩
    · split at hr
      · exact (T.bad_some hr).elim
      · rename_i fn hfn
        split at hr
        · exact (T.bad_some hr).elim
        · rename_i c hc
          split at hr
          case isFalse => exact (T.bad_some hr).elim
          rename_i hle
          have hle' : args.length ≤ fn.ntmps := by simpa using hle
          obtain ⟨⟨x, s⟩, h1, h2⟩ := T.bind_some hr
          have hres : ∃ u, resE P fn s = some u ∧ (u, s.pc) = (v, pc') ∧ ∀ id, x ≠ .ex id := by
            cases x with
            | ex id => exact (T.bad_some h2).elim
            | norm =>
              simp only at h2
              split at h2
              · rename_i u hu; exact ⟨u, hu, T.ret_some h2, fun _ e => by cases e⟩
              · exact (T.bad_some h2).elim
            | ret =>
              simp only at h2
              split at h2
              · rename_i u hu; exact ⟨u, hu, T.ret_some h2, fun _ e => by cases e⟩
              · exact (T.bad_some h2).elim
          obtain ⟨u, hu, e, hx⟩ := hres
          cases e
          have start : ∀ (α : Nat → Nat) (w : World), (∀ id b, hp.get id = some b → blkAt ρ α w id b) →
              Rel ρ α nx fn.ntmps w ⟨pc, tm0 args 0 fn.ntmps, hp, nx⟩ { tmps := (args.map (SV.den ρ α)).toArray ++ Array.replicate (fn.ntmps - (args.map (SV.den ρ α)).toArray.size) undef, defers := [] } w := by
            intro α w hblk
            refine ⟨hpc, ⟨fun t s hs => ?_, by simp; omega, rfl⟩, ⟨Below.refl _ _, hblk, fun id b hb hl => ?_, fun id b hb _ => blkAt_lt (hblk id b hb), fun i j b c hi _ hb _ _ => ?_⟩, fun id b hb => (hhp id b hb).1, Nat.le_refl _⟩
            · obtain ⟨_, h⟩ := tm0_get args 0 fn.ntmps t s hs
              rw [Nat.sub_zero] at h
              rw [← Array.getElem?_toList]
              simp only [Array.toList_append, Array.toList_replicate, List.size_toArray, List.length_map]
              have e : args.map (SV.den ρ α) ++ List.replicate (fn.ntmps - args.length) undef = (args ++ List.replicate (fn.ntmps - args.length) (SV.tup [])).map (SV.den ρ α) := by
                simp [List.map_replicate, SV.den, undef]
              rw [e, List.getElem?_map, h]
              rfl
            · have := (hhp id b hb).1; omega
            · have := (hhp i b hb).1; omega
          refine ⟨?_, fun hv α w hw hblk => ?_⟩
          · exact exec_pc (callE_sound hcon hm fuel d) fuel c _ h1 hpc
          · refine calls_of_wp hfn hc ?_
            refine (exec_sound (callE_sound hcon hm fuel d) hm hw fuel c _ _ h1 (start α w hblk) fun α' a' w' rel' => ?_).1
            have hrun := resE_run rel' hu
            have hden : v.den ρ α' = v.den ρ α := SV.den_congr (n := 0) (fun id h => absurd h (Nat.not_lt_zero _)) hv
            rw [hden] at hrun
            have post : a'.defers = [] ∧ ∃ v', (results fn a'.tmps).run P w' = .ok v' w' ∧ (Ending.returned v' = .returned (v.den ρ α) ∧ Below w.heap.size w w') :=
              ⟨rel'.ra.defers, _, hrun, rfl, rel'.rw_.bel⟩
            cases x with
            | norm => exact post
            | ret => exact post
            | ex id => exact absurd rfl (hx id)
/-- **The tree of a call tells what it hands back, behind a world of which something is known.** -/
theorem tree_callsW {con : Con} {w : World} (hcon : ConOkW P ρ w con) {pc : PC} (hpc : pc.Ok ρ) (hm : P.follows .mixedOrders = true) {fuel d : Nat} {f : FuncId} {args : List SV} {t : T SV} (ht : tree P con pc fuel d f args = t) (hcb : callable P f = true) (hargs : args.all (·.below 0) = true)
    {v : SV} (hv : t.pick ρ = some v) : Calls P f (args.map (SV.den ρ id)).toArray w (fun e w' => e = .returned (v.den ρ id) ∧ Below w.heap.size w w') := by
  subst ht
  unfold tree at hv
  obtain ⟨⟨u, pc'⟩, h1, h2⟩ := T.bind_some hv
  simp only at h2
  split at h2
  · rename_i hb
    have := T.ret_some h2
    subst this
    exact (callE_sound hcon hm fuel d f args [] 0 pc _ pc' hpc h1 hcb (fun s hs => List.all_eq_true.1 hargs s hs) (fun i b h => by simp [Hp.get] at h)).2 hb id w (Below.refl _ _) (fun i b h => by simp [Hp.get] at h)
  · exact (T.bad_some h2).elim
/-- **The tree of a call tells what it hands back, in every world.** -/
theorem tree_calls {con : Con} (hcon : ConOk P ρ con) {pc : PC} (hpc : pc.Ok ρ) (hm : P.follows .mixedOrders = true) {fuel d : Nat} {f : FuncId} {args : List SV} {t : T SV} (ht : tree P con pc fuel d f args = t) (hcb : callable P f = true) (hargs : args.all (·.below 0) = true)
    {v : SV} (hv : t.pick ρ = some v) (w : World) : Calls P f (args.map (SV.den ρ id)).toArray w (fun e w' => e = .returned (v.den ρ id) ∧ Below w.heap.size w w') :=
  tree_callsW (hcon.at w) hpc hm ht hcb hargs hv
/-- The tree comes to 'true'. -/
def T.Good (ρ : EnvS) (t : T SV) : Prop := ∃ v, t.pick ρ = some v ∧ v.den ρ id = .bool true
theorem Good.br {c : BE} {t e : T SV} (h1 : c.den ρ = true → t.Good ρ) (h2 : c.den ρ = false → e.Good ρ) : (T.br c t e).Good ρ := by
  cases hc : c.den ρ
  · obtain ⟨v, q1, q2⟩ := h2 hc
    exact ⟨v, by simp only [T.pick, hc, Bool.false_eq_true, if_false, q1], q2⟩
  · obtain ⟨v, q1, q2⟩ := h1 hc
    exact ⟨v, by simp only [T.pick, hc, if_true, q1], q2⟩
theorem Good.ret {b : BE} (h : b.den ρ = true) : (T.ret (.one (.bool b))).Good ρ := ⟨_, rfl, by simp [SV.den, SCl.den, h]⟩
theorem Good.yes : (T.ret (.one (.bool (.lit true)))).Good ρ := Good.ret rfl
theorem Good.bad {n : Nat} (h : False) : (T.bad n : T SV).Good ρ := h.elim
theorem isTrue_good {t : T SV} (h : t.isTrue = true) : t.Good ρ := by
  unfold T.isTrue at h
  split at h
  · exact Good.yes
  · cases h
theorem Good.of_prune : ∀ {t : T SV}, t.prune.Good ρ → t.Good ρ
  | .ret v, h => h
  | .bad n, h => h
  | .br c t e, h => by
    simp only [T.prune] at h
    split at h
    · rename_i hc
      simp only [Bool.and_eq_true] at hc
      exact Good.br (fun _ => Good.of_prune (isTrue_good hc.1)) (fun _ => Good.of_prune (isTrue_good hc.2))
    · obtain ⟨v, h1, h2⟩ := h
      simp only [T.pick] at h1
      refine Good.br (fun hc => Good.of_prune ⟨v, ?_, h2⟩) (fun hc => Good.of_prune ⟨v, ?_, h2⟩)
      · simpa [hc] using h1
      · simpa [hc] using h1
/-- **A law: whatever the case, true.** -/
theorem tree_lawW {con : Con} {w : World} (hcon : ConOkW P ρ w con) {pc : PC} (hpc : pc.Ok ρ) (hm : P.follows .mixedOrders = true) {fuel d : Nat} {f : FuncId} {args : List SV} {t : T SV} (ht : treeB P con pc fuel d f args = t) (hcb : callable P f = true) (hargs : args.all (·.below 0) = true)
    (hg : t.Good ρ) : Calls P f (args.map (SV.den ρ id)).toArray w (fun e w' => e = .returned (.bool true) ∧ Below w.heap.size w w') := by
  subst ht
  obtain ⟨v, h1, h2⟩ := Good.of_prune hg
  obtain ⟨⟨u, pc'⟩, h3, h4⟩ := T.bind_some h1
  have hok := callE_sound hcon hm fuel d f args [] 0 pc u pc' hpc h3 hcb (fun s hs => List.all_eq_true.1 hargs s hs) (fun i b h => by simp [Hp.get] at h)
  simp only at h4
  split at h4
  · rename_i b
    obtain ⟨pc2, _, h5⟩ := T.cond_some hok.1 h4
    have := T.ret_some h5
    subst this
    have hb : b.den ρ = true := by simpa [SV.den, SCl.den, BE.den] using h2
    have := hok.2 rfl id w (Below.refl _ _) (fun i b h => by simp [Hp.get] at h)
    simpa [SV.den, SCl.den, hb] using this
  · exact (T.bad_some h4).elim
/-- **A law: whatever the case, true.** -/
theorem tree_law {con : Con} (hcon : ConOk P ρ con) {pc : PC} (hpc : pc.Ok ρ) (hm : P.follows .mixedOrders = true) {fuel d : Nat} {f : FuncId} {args : List SV} {t : T SV} (ht : treeB P con pc fuel d f args = t) (hcb : callable P f = true) (hargs : args.all (·.below 0) = true)
    (hg : t.Good ρ) (w : World) : Calls P f (args.map (SV.den ρ id)).toArray w (fun e w' => e = .returned (.bool true) ∧ Below w.heap.size w w') :=
  tree_lawW (hcon.at w) hpc hm ht hcb hargs hg
theorem PC.Ok.nil : PC.Ok ρ [] := fun _ _ h => by cases h
/-- A tree whose every case hands back what it should. -/
def T.All (ρ : EnvS) (R : Value → Prop) (t : T SV) : Prop := ∃ v, t.pick ρ = some v ∧ R (v.den ρ id)
theorem All.br {R : Value → Prop} {c : BE} {t e : T SV} (h1 : c.den ρ = true → t.All ρ R) (h2 : c.den ρ = false → e.All ρ R) : (T.br c t e).All ρ R := by
  cases hc : c.den ρ
  · obtain ⟨v, q1, q2⟩ := h2 hc
    exact ⟨v, by simp only [T.pick, hc, Bool.false_eq_true, if_false, q1], q2⟩
  · obtain ⟨v, q1, q2⟩ := h1 hc
    exact ⟨v, by simp only [T.pick, hc, if_true, q1], q2⟩
theorem All.ret {R : Value → Prop} {v : SV} (h : R (v.den ρ id)) : (T.ret v).All ρ R := ⟨v, rfl, h⟩
theorem All.bad {R : Value → Prop} {n : Nat} (h : False) : (T.bad n : T SV).All ρ R := h.elim
/-- **A function: whatever the case, what it should hand back.** -/
theorem tree_fun {con : Con} (hcon : ConOk P ρ con) {pc : PC} (hpc : pc.Ok ρ) (hm : P.follows .mixedOrders = true) {fuel d : Nat} {f : FuncId} {args : List SV} {t : T SV} (ht : tree P con pc fuel d f args = t) (hcb : callable P f = true) (hargs : args.all (·.below 0) = true)
    {u : Value} (hg : t.All ρ (· = u)) (w : World) : Calls P f (args.map (SV.den ρ id)).toArray w (fun e w' => e = .returned u ∧ Below w.heap.size w w') := by
  obtain ⟨v, h1, h2⟩ := hg
  have := tree_calls hcon hpc hm ht hcb hargs h1 w
  rwa [h2] at this
end
end Go.Proofs.YtinnlahmlepeeaaDoor
