/- The executor's laws: a call. -/
import Derived.Test.YtlmijfgmfcnngaaEzK
namespace Go.Proofs.Ytlmijfgmfcnngaa
open Go.RowKit
section
variable {ρ : EnvS} {P : Program}
theorem SCl.same_eq {a b : SCl} (h : a.same b = true) : a = b := by
  cases a <;> cases b <;> simp [SCl.same] at h
  · rw [LD.same_eq h]
  · rw [LD.same_eq h.1, IE.same_eq _ _ h.2.1, h.2.2]
  · rw [h.1, IE.same_eq _ _ h.2.1, h.2.2]
  · rw [same_kind h.1, IE.same_eq _ _ h.2]
  · rw [BE.same_eq _ _ h]
theorem sameL_eq : ∀ {as bs : List SCl}, sameL as bs = true → as = bs
  | [], [], _ => rfl
  | a :: as, b :: bs, h => by
    simp only [sameL, Bool.and_eq_true] at h
    rw [SCl.same_eq h.1, sameL_eq h.2]
  | [], _ :: _, h => by simp [sameL] at h
  | _ :: _, [], h => by simp [sameL] at h
theorem SV.same_eq {a b : SV} (h : a.same b = true) : a = b := by
  cases a <;> cases b <;> simp [SV.same] at h
  · rw [SCl.same_eq h]
  · rw [sameL_eq h]
theorem sameVs_eq : ∀ {as bs : List SV}, sameVs as bs = true → as = bs
  | [], [], _ => rfl
  | a :: as, b :: bs, h => by
    simp only [sameVs, Bool.and_eq_true] at h
    rw [SV.same_eq h.1, sameVs_eq h.2]
  | [], _ :: _, h => by simp [sameVs] at h
  | _ :: _, [], h => by simp [sameVs] at h
/-- What is known of calls is so. -/
def ConOk (P : Program) (ρ : EnvS) (con : Con) : Prop :=
  ∀ f args v, (f, args, v) ∈ con → ∀ (α : Nat → Pl) (w : World), Calls P f (args.map (SV.den ρ α)).toArray w (fun e w' => e = .returned (v.den ρ α) ∧ Below w.heap.size w w')
/-- What is known of calls is so in every world that lies behind W0. -/
def ConOkW (P : Program) (ρ : EnvS) (W0 : World) (con : Con) : Prop :=
  ∀ f args v, (f, args, v) ∈ con → ∀ (α : Nat → Pl) (w : World), Below W0.heap.size W0 w → Calls P f (args.map (SV.den ρ α)).toArray w (fun e w' => e = .returned (v.den ρ α) ∧ Below w.heap.size w w')
theorem ConOk.at {con : Con} (h : ConOk P ρ con) (W0 : World) : ConOkW P ρ W0 con := fun f args v hm α w _ => h f args v hm α w
theorem con_find {con : Con} {f : FuncId} {args : List SV} {v : SV} (h : Con.find f args con = some v) : (f, args, v) ∈ con := by
  induction con with
  | nil => simp [Con.find] at h
  | cons x r ih =>
    obtain ⟨g, as, u⟩ := x
    simp only [Con.find] at h
    split at h
    · rename_i hc
      simp only [Bool.and_eq_true] at hc
      cases h
      rw [← Nat.eq_of_beq_eq_true hc.1, ← sameVs_eq hc.2]
      exact List.mem_cons_self ..
    · exact List.mem_cons_of_mem _ (ih h)
theorem tmU_get : ∀ (i k t : Nat) (s : SV), (tmU i k).get t = some s → i ≤ t ∧ (List.replicate k (SV.tup []))[t - i]? = some s
  | i, 0, t, s, h => by simp [tmU, Tm.get] at h
  | i, k + 1, t, s, h => by
    simp only [tmU, Tm.get_cons] at h
    split at h
    · rename_i e; cases h; subst e; simp
    · rename_i e
      obtain ⟨h1, h2⟩ := tmU_get (i + 1) k t s h
      refine ⟨by omega, ?_⟩
      obtain ⟨j, rfl⟩ : ∃ j, t = i + 1 + j := ⟨t - (i + 1), by omega⟩
      rw [show i + 1 + j - (i + 1) = j by omega] at h2
      rw [show i + 1 + j - i = j + 1 by omega, List.replicate_succ, List.getElem?_cons_succ]
      exact h2
theorem tm0_get : ∀ (vs : List SV) (i k t : Nat) (s : SV), (tm0 vs i k).get t = some s → i ≤ t ∧ (vs ++ List.replicate (k - vs.length) (SV.tup []))[t - i]? = some s
  | [], i, k, t, s, h => by
    have := tmU_get i k t s h
    simpa using this
  | v :: vs, i, k, t, s, h => by
    simp only [tm0, Tm.get_cons] at h
    split at h
    · rename_i e; cases h; subst e; simp
    · rename_i e
      obtain ⟨h1, h2⟩ := tm0_get vs (i + 1) (k - 1) t s h
      refine ⟨by omega, ?_⟩
      obtain ⟨j, rfl⟩ : ∃ j, t = i + 1 + j := ⟨t - (i + 1), by omega⟩
      rw [show i + 1 + j - (i + 1) = j by omega] at h2
      rw [show i + 1 + j - i = j + 1 by omega, List.cons_append, List.getElem?_cons_succ, List.length_cons, show k - (vs.length + 1) = k - 1 - vs.length by omega]
      exact h2
def resOf (tmps : Array Value) : ResultVar → Sem Value
  | .tmp t => pure (tmps.getD t undef)
  | .cell x t => do loadVar t (← asAddr (tmps.getD x undef))
section res
variable {α : Nat → Pl} {nt : Nat} {mk : List Nat} {tm : Tm} {a : Act} {w : World} {h : Vw}
theorem resV_run (ra : RA ρ α nt tm mk a) (hb : ∀ id b, h id = some (.blk b) → blkAt ρ α w id b) {r : ResultVar} {v : SV} (hv : resV P tm h r = some v) :
    (resOf a.tmps r).run P w = .ok (v.den ρ α) w := by
  cases r with
  | tmp t =>
    have := ra.get t v hv
    simp [resOf, Array.getD_eq_getD_getElem?, this]
  | cell x t =>
    simp only [resV] at hv
    split at hv
    · rename_i id off hx
      split at hv
      · rename_i b hbb
        have h1 := ra.get x _ hx
        have h2 : a.tmps.getD x undef = .pointer (some ⟨(α id).blk, off, none⟩) := by simp [Array.getD_eq_getD_getElem?, h1, SV.den, SCl.den]
        simp only [resOf, h2, asAddr, Sem.run_bind, Sem.run_pure, Result.andThen_ok]
        exact loadVar_run (hb id b hbb) hv
      · cases hv
    · cases hv
theorem resL_run (ra : RA ρ α nt tm mk a) (hb : ∀ id b, h id = some (.blk b) → blkAt ρ α w id b) : ∀ {rs : List ResultVar} {vs : List SV}, resL P tm h rs = some vs →
    (rs.mapM (resOf a.tmps)).run P w = Result.ok (vs.map (SV.den ρ α)) w
  | [], vs, h => by simp [resL] at h; subst h; rfl
  | r :: rs, vs, h => by
    simp only [resL] at h
    split at h
    · rename_i v vs' h1 h2
      cases h
      rw [List.mapM_cons, Sem.run_bind, resV_run ra hb h1, Result.andThen_ok, Sem.run_bind, resL_run ra hb h2]
      rfl
    · cases h
theorem results_eq (fn : Func) (tmps : Array Value) : results fn tmps = (do let vs ← fn.results.mapM (resOf tmps); pure (if h : vs.size = 1 then vs[0] else .tuple vs)) := by
  unfold results
  congr 1
theorem resE_run (ra : RA ρ α nt tm mk a) (hb : ∀ id b, h id = some (.blk b) → blkAt ρ α w id b) {fn : Func} {v : SV} (hr : resE P fn tm h = some v) : (results fn a.tmps).run P w = .ok (v.den ρ α) w := by
  unfold resE at hr
  have hrun : ∀ {vs : List SV}, resL P tm h fn.results.toList = some vs → (results fn a.tmps).run P w = .ok (if h : (vs.map (SV.den ρ α)).toArray.size = 1 then (vs.map (SV.den ρ α)).toArray[0] else .tuple (vs.map (SV.den ρ α)).toArray) w := by
    intro vs hvs
    have := resL_run ra hb hvs
    rw [results_eq]
    rw [Array.mapM_eq_mapM_toList, Sem.run_bind, Sem.run_map]
    rw [this]
    rfl
  split at hr
  · rename_i v' hv
    cases hr
    rw [hrun hv]
    rfl
  · rename_i vs hne hv
    rw [Option.map_eq_some_iff] at hr
    obtain ⟨ss, hss, rfl⟩ := hr
    rw [hrun hv]
    have hlen : (vs.map (SV.den ρ α)).toArray.size ≠ 1 := by
      intro he
      simp at he
      match vs, he with
      | [x], _ => exact hne x rfl
    rw [dif_neg hlen]
    simp only [SV.den, s1L_den hss]
  · cases hr
end res
/-! ### What is known stays known -/
theorem reg_pc {call : CallF} {W0 : World} (hcall : CallOk P ρ W0 call) {h0 : Vw} {nt : Nat} {ops : Array Oper} {draw : Bool} {s s' : St} (hr : (regE P call h0 nt ops draw s).pick ρ = some s') (hpc : s.pc.Ok ρ) : s'.pc.Ok ρ := by
  unfold regE at hr
  split at hr
  case isFalse => exact (T.bad_some hr).elim
  obtain ⟨⟨pc, tm, d, n, rs⟩, h1, h2⟩ := T.bind_some hr
  simp only at h2
  split at h2
  case isFalse => exact (T.bad_some h2).elim
  have := T.ret_some h2
  subst this
  obtain ⟨_, _, _, _, _, _, _, _, _, e, _⟩ := seq_canon hcall ops.toList 0 s.pc s.tm s.d s.next [] h1 hpc
  exact e
theorem exec_pc {rc : RunF} {W0 : World} {B : EnvS → Prop} (hrc : ∀ lps ρ, Fam B lps ρ → CallOk P ρ W0 (rc lps)) {nt : Nat} {rd : Option Nat} {lps : List LAnn} (hF : Fam B lps ρ) : ∀ (n : Nat) (h0 : Vw) (c : Code) (s : St) {x : SXt} {s' : St}, (exec P rc nt rd n lps h0 c s).pick ρ = some (x, s') → s.pc.Ok ρ → s'.pc.Ok ρ
  | 0, h0, c, s, x, s', hr, _ => (T.bad_some hr).elim
  | n + 1, h0, c, s, x, s', hr, hpc => by
    have hcall := hrc lps ρ hF
    cases c with
    | skip => have := T.ret_some hr; cases this; exact hpc
    | label l => have := T.ret_some hr; cases this; exact hpc
    | exit id => have := T.ret_some hr; cases this; exact hpc
    | ret => have := T.ret_some hr; cases this; exact hpc
    | region id ops draw =>
      rw [exec_succ] at hr
      simp only [stepX] at hr
      obtain ⟨s1, h1, h2⟩ := T.bind_some hr
      have := T.ret_some h2
      cases this
      exact reg_pc hcall h1 hpc
    | seq c d =>
      rw [exec_succ] at hr
      simp only [stepX] at hr
      obtain ⟨⟨y, s1⟩, h1, h2⟩ := T.bind_some hr
      have hp := exec_pc hrc hF n h0 c s h1 hpc
      cases y with
      | norm => exact exec_pc hrc hF n h0 d s1 h2 hp
      | ex id => have := T.ret_some h2; cases this; exact hp
      | ret => have := T.ret_some h2; cases this; exact hp
    | cond b c d =>
      rw [exec_succ] at hr
      simp only [stepX] at hr
      split at hr
      · obtain ⟨pc', h1, h2⟩ := T.cond_some hpc hr
        exact exec_pc hrc hF n h0 _ _ h2 h1
      · exact (T.bad_some hr).elim
    | block id body =>
      rw [exec_succ] at hr
      simp only [stepX] at hr
      obtain ⟨⟨y, s1⟩, h1, h2⟩ := T.bind_some hr
      have hp := exec_pc hrc hF n h0 body s h1 hpc
      cases y with
      | norm => have := T.ret_some h2; cases this; exact hp
      | ret => have := T.ret_some h2; cases this; exact hp
      | ex j =>
        simp only at h2
        split at h2 <;> (have := T.ret_some h2; cases this; exact hp)
    | loop body =>
      rw [exec_succ] at hr
      simp only [stepX] at hr
      split at hr
      · obtain ⟨⟨y, s1⟩, h1, h2⟩ := T.bind_some hr
        have hp := exec_pc hrc hF n h0 body s h1 hpc
        cases y with
        | norm => exact exec_pc hrc hF n h0 _ s1 h2 hp
        | ex id => have := T.ret_some h2; cases this; exact hp
        | ret => have := T.ret_some h2; cases this; exact hp
      · rename_i A tl hfind
        have hfind' : LAnn.find (keyC body) (fun A => A.startOk rd (s.d.over h0) s) lps = some (A, tl) := by
          cases lps with
          | nil => cases hfind
          | cons _ _ => exact hfind
        cases hall : (A.pcR.all fun pcr => (exec P rc nt rd n tl (Hp.over (A.view (s.d.over h0)) fun _ => none) body ⟨pcr, A.tms, [], A.nx, []⟩).all (A.backOk (Hp.over (A.view (s.d.over h0)) fun _ => none))) with
        | false => rw [hall] at hr; exact (T.bad_some hr).elim
        | true =>
          · rw [hall] at hr
            simp only [cond_true] at hr
            obtain ⟨⟨y, s1⟩, h1, h2⟩ := T.bind_some hr
            have hp := exec_pc hrc hF n h0 body _ h1 ((Fam.find hfind' hF).2.2.2.1.append hpc)
            cases y with
            | norm => exact (T.bad_some h2).elim
            | ex id => have := T.ret_some h2; cases this; exact hp
            | ret => have := T.ret_some h2; cases this; exact hp
    | rangeFunc f ps asg body =>
      rw [exec_succ] at hr
      simp only [stepX, rangeE] at hr
      split at hr
      · exact (T.bad_some hr).elim
      split at hr
      · exact (T.bad_some hr).elim
      split at hr
      · split at hr
        · split at hr
          · split at hr
            · obtain ⟨⟨v, fd, n', pc'⟩, h1, h2⟩ := T.bind_some hr
              have hp := (hcall.2 _ _ _ _ _ _ _ _ _ hpc h1).1
              simp only at h2
              split at h2
              · split at h2
                · split at h2
                  · exact (T.bad_some h2).elim
                  · split at h2
                    · have := T.ret_some h2; cases this; exact hp
                    · have := T.ret_some h2; cases this; exact hp
                    · have := T.ret_some h2; cases this; exact hp
                    · exact (T.bad_some h2).elim
                · exact (T.bad_some h2).elim
              · exact (T.bad_some h2).elim
            · exact (T.bad_some hr).elim
          · exact (T.bad_some hr).elim
        · exact (T.bad_some hr).elim
      · exact (T.bad_some hr).elim
    | scope _ => exact (T.bad_some hr).elim
    | goto _ => exact (T.bad_some hr).elim
    | refuse _ => exact (T.bad_some hr).elim
/-! ### The end of a call -/
theorem one_get {id i : Nat} {x : Option Ob} : Hp.get i [(id, x)] = if id = i then some x else none := by
  rw [Hp.get_cons]
  split <;> rfl
theorem over_one {id : Nat} {x : Option Ob} {d : Hp} {h : Vw} (i : Nat) : (Hp.app [(id, x)] d).over h i = if id = i then x else d.over h i := by
  rw [app_over]
  by_cases e : id = i
  · rw [if_pos e]; exact over_some (by rw [one_get, if_pos e])
  · rw [if_neg e]; exact over_none (by rw [one_get, if_neg e])
theorem mksOk_congr {h h' : Vw} : ∀ {l : List Nat}, (∀ m ∈ l, h' m = h m) → mksOk h' l = mksOk h l
  | [], _ => rfl
  | m :: r, hh => by
    simp only [mksOk, hh m (List.mem_cons_self ..), mksOk_congr fun x hx => hh x (List.mem_cons_of_mem _ hx)]
theorem mks_parts {h : Vw} {m : Nat} {r : List Nat} (hk : mksOk h (m :: r) = true) : m ∉ r ∧ h m = some .dfr ∧ mksOk h r = true := by
  simp only [mksOk, Bool.and_eq_true, Bool.not_eq_true'] at hk
  obtain ⟨⟨h1, h2⟩, h3⟩ := hk
  refine ⟨fun hm => ?_, ?_, h3⟩
  · have : r.any (·.beq m) = true := List.any_eq_true.2 ⟨m, hm, Nat.beq_refl m⟩
    rw [this] at h1
    cases h1
  · split at h2
    · assumption
    · cases h2
theorem drop_blk {h0 : Vw} : ∀ {l : List Nat} {d : Hp}, mksOk (d.over h0) l = true → ∀ id b, d.over h0 id = some (.blk b) → (dropMk l d).over h0 id = some (.blk b)
  | [], d, _, id, b, hb => hb
  | m :: r, d, hk, id, b, hb => by
    obtain ⟨k1, k2, k3⟩ := mks_parts hk
    have hne : m ≠ id := by rintro rfl; rw [k2] at hb; cases hb
    refine drop_blk (d := Hp.app [(m, none)] d) ?_ id b ?_
    · rw [mksOk_congr fun x hx => ?_]
      · exact k3
      · rw [over_one, if_neg (by rintro rfl; exact k1 hx)]
    · rw [over_one, if_neg hne]; exact hb
theorem marks_leave {W0 W : World} {α0 : Nat → Pl} {h0 : Vw} {nx n : Nat} (cx : Cx ρ W0 α0 h0 W nx) {fn : Func} {tmps : Array Value} {R : Ending → World → Prop} {α : Nat → Pl} (hn : nx ≤ n) : ∀ (l : List Nat) (d : Hp) (w : World), mksOk (d.over h0) l = true → Inv ρ α0 h0 W (Rg nx n) α w d → DLow n d →
    (∀ w', Inv ρ α0 h0 W (Rg nx n) α w' (dropMk l d) → DLow n (dropMk l d) → ∃ v, (results fn tmps).run P w' = .ok v w' ∧ R (.returned v) w') →
    LeavesInM (FW none) 0 P fn tmps R (l.map fun id => { target := .collected (α id).blk, args := #[] }) .returning w
  | [], d, w, _, hI, hl, hfin => hfin w hI hl
  | m :: r, d, w, hk, hI, hl, hfin => by
    obtain ⟨k1, k2, k3⟩ := mks_parts hk
    have hobs := inv_obs cx (fun _ q => q.1) hI
    have hat : w.heap[(α m).blk]? = some (.deferred (some [])) := hobs.at_ m _ k2
    obtain ⟨UD, DD⟩ := eff_obj (ρ := ρ) (n := n) (x := none) (ob := .deferred none) k2 rfl rfl rfl (fun o' q => by cases q) (fun o' q => by cases q) (α := α) (w := w)
    have I1 := inv_same cx hI hn UD DD
    have hm : m < n := by
      rcases hq : d.get m with _ | x
      · rw [over_none hq] at k2; exact Nat.lt_of_lt_of_le (cx.low m _ k2).1 hn
      · exact (hl m x hq).1
    refine ⟨by simp, .inl ⟨(α m).blk, _, rfl, run_takeDeferred hat, ?_⟩⟩
    refine marks_leave cx hn r (Hp.app [(m, none)] d) _ ?_ I1 ((DLow.one hm fun o q => by cases q).app hl) hfin
    rw [mksOk_congr fun x hx => ?_]
    · exact k3
    · rw [over_one, if_neg (by rintro rfl; exact k1 hx)]
theorem filter_get (p : Nat → Bool) : ∀ (d : Hp) (i : Nat), Hp.get i (d.filter fun q => p q.1) = if p i = true then d.get i else none
  | [], i => by simp [Hp.get_nil]
  | (j, b) :: d, i => by
    rw [List.filter_cons]
    by_cases hj : p j = true
    · simp only [hj, if_true, Hp.get_cons, filter_get p d i]
      by_cases e : j = i
      · subst e; simp [hj]
      · simp [e]
    · have hjf : p j = false := by simpa using hj
      simp only [hjf, Bool.false_eq_true, if_false, Hp.get_cons, filter_get p d i]
      by_cases e : j = i
      · subst e; simp [hjf]
      · simp [e]
theorem gc_upd {nx n : Nat} {v : SV} {d d' : Hp} {α α' : Nat → Pl} {h : Vw} {w w' : World} (hg : gcE nx v d = some d') (hl : DLow n d) (U : Upd (Rg nx n) ρ α α' h w w' d) : Upd (Rg nx n) ρ α α' h w w' d' := by
  unfold gcE at hg
  split at hg
  · rename_i bm _ _
    cases hg
    refine U.less (fun i x e => ?_) fun i hi => ?_
    · rw [filter_get (fun k => k.blt nx || bm.testBit k)] at e
      split at e
      · exact e
      · cases e
    · rw [filter_get (fun k => k.blt nx || bm.testBit k)]
      split
      · rfl
      · rename_i hp
        cases hd : d.get i with
        | none => rfl
        | some x =>
          have := (hl i x hd).1
          have hlt : i < nx := by
            rcases Nat.lt_or_ge i nx with q | q
            · exact q
            · exact absurd ⟨q, this⟩ hi
          simp [hlt] at hp
  · cases hg
theorem tm0_ids : ∀ (vs : List SV) (i k : Nat), ∀ m ∈ (tm0 vs i k).ids, ∃ s ∈ vs, m ∈ s.ids
  | [], i, k, m, hm => by
    exfalso
    have : ∀ (k i : Nat), (tmU i k).ids = [] := by
      intro k
      induction k with
      | zero => intro i; rfl
      | succ k ih => intro i; simp [tmU, Tm.ids, ih, SV.ids]
    rw [tm0, this] at hm
    cases hm
  | v :: vs, i, k, m, hm => by
    simp only [tm0, Tm.ids, List.mem_append] at hm
    rcases hm with hm | hm
    · exact ⟨v, List.mem_cons_self .., hm⟩
    · obtain ⟨s, h1, h2⟩ := tm0_ids vs (i + 1) (k - 1) m hm
      exact ⟨s, List.mem_cons_of_mem _ h1, h2⟩
end
end Go.Proofs.Ytlmijfgmfcnngaa
