/- The executor's laws: calls; the tree of a call. -/
import Derived.Test.YtmpadjlplgajcaaE4L
namespace Go.Proofs.Ytmpadjlplgajcaa
open Go.RowKit
section
variable {ρ : EnvS} {P : Program}
theorem putPs_ok {α : Nat → Pl} : ∀ {ps : List Nat} {vs : List SV} {tm tm' : Tm} {tmps : Array Value}, putPs tm ps vs = some tm' → (∀ p ∈ ps, p < tmps.size) → (∀ t s, tm.get t = some s → tmps[t]? = some (s.den ρ α)) →
    (∀ t s, tm'.get t = some s → ((ps.zip (vs.map (SV.den ρ α))).foldl (fun (t : Array Value) (x : Nat × Value) => t.setIfInBounds x.1 x.2) tmps)[t]? = some (s.den ρ α)) ∧
      ((ps.zip (vs.map (SV.den ρ α))).foldl (fun (t : Array Value) (x : Nat × Value) => t.setIfInBounds x.1 x.2) tmps).size = tmps.size ∧ ps.length = vs.length ∧ ∀ m ∈ tm'.ids, m ∈ tm.ids ∨ ∃ s ∈ vs, m ∈ s.ids
  | [], [], tm, tm', tmps, h, _, hg => by
    simp only [putPs, Option.some.injEq] at h
    subst h
    exact ⟨fun t s hs => hg t s hs, rfl, rfl, fun m hm => .inl hm⟩
  | p :: ps, v :: vs, tm, tm', tmps, h, hp, hg => by
    simp only [putPs] at h
    have hp0 : p < tmps.size := hp p (List.mem_cons_self ..)
    have := putPs_ok (α := α) (tmps := tmps.setIfInBounds p (v.den ρ α)) h (fun q hq => by rw [Array.size_setIfInBounds]; exact hp q (List.mem_cons_of_mem _ hq)) (fun t s hs => by
      rw [Tm.get_cons] at hs
      rw [Array.getElem?_setIfInBounds]
      split at hs
      · rename_i e; cases hs; subst e; simp [hp0]
      · rename_i e; rw [if_neg e]; exact hg t s hs)
    obtain ⟨q1, q2, q3, q4⟩ := this
    refine ⟨fun t s hs => by simpa using q1 t s hs, by simpa using q2, by simp [q3], fun m hm => ?_⟩
    rcases q4 m hm with h1 | ⟨s, h1, h2⟩
    · simp only [Tm.ids, List.mem_append] at h1
      rcases h1 with h1 | h1
      · exact .inr ⟨v, List.mem_cons_self .., h1⟩
      · exact .inl h1
    · exact .inr ⟨s, List.mem_cons_of_mem _ h1, h2⟩
  | [], _ :: _, tm, tm', tmps, h, _, _ => by simp [putPs] at h
  | _ :: _, [], tm, tm', tmps, h, _, _ => by simp [putPs] at h
theorem fin_some {nx id : Nat} {y : Yl} {s : St} {st : Nat} {p : Option Code} {b : Bool} {out : SV × Hp × Nat × PC} (h : (finE nx id y s st p b).pick ρ = some out) :
    ∃ d, gcE nx (.one (.bool (.lit b))) (Hp.app [(id, some (.yld { y with st := st, pend := p }))] s.d) = some d ∧ out = (.one (.bool (.lit b)), d, s.next, s.pc) := by
  unfold finE at h
  split at h
  · rename_i d hd; exact ⟨d, hd, (T.ret_some h).symm⟩
  · exact (T.bad_some h).elim
/-- A loop's record that is as it was need not be told. -/
theorem Upd.calm {R : Nat → Prop} {α α' : Nat → Pl} {h : Vw} {w w' : World} {d d' : Hp} {id : Nat} {y' : Yl} (U : Upd R ρ α α' h w w' d) (D : DOk R h d) (hnR : ¬ R id) (hd : d.get id = some (some (.yld y'))) (hnone : d'.get id = none) (hrest : ∀ i, i ≠ id → d'.get i = d.get i)
    (hsib : ∀ k x, d'.get k = some x → ∀ o, h k = some o → id ∉ o.sib) (heq : w'.heap[(α id).blk]? = w.heap[(α id).blk]?) : Upd R ρ α α' h w w' d' ∧ DOk R h d' := by
  have hne : ∀ i x, d'.get i = some x → i ≠ id := fun i x e q => by rw [q, hnone] at e; cases e
  have up : ∀ i x, d'.get i = some x → d.get i = some x := fun i x e => by rw [← hrest i (hne i x e)]; exact e
  have hx : ∀ k, Xs R α h d k → Xs R α h d' k ∨ k = (α id).blk := by
    rintro k ⟨i, o, q1, q2, q3, q4, q5, q6⟩
    by_cases e : i = id
    · right; rw [← q6, e]
    · left; exact ⟨i, o, by rw [hrest i e]; exact q1, q2, q3, q4, q5, q6⟩
  refine ⟨⟨U.al, ⟨U.st.os, U.st.tape, U.st.output, U.st.size, fun k hk hX => ?_⟩, fun i o e => U.at_ i o (up i _ e), fun i o hr e ha => ?_, fun i j oi oj hij e1 e2 => U.inj i j oi oj hij (up i _ e1) (up j _ e2)⟩, fun k x e => ?_⟩
  · by_cases hk2 : Xs R α h d k
    · rcases hx k hk2 with q | q
      · exact absurd q hX
      · rw [q]; exact heq
    · exact U.st.block k hk hk2
  · rcases U.own i o hr (up i _ e) ha with q | q
    · rcases hx _ q with q | q
      · exact .inl q
      · exfalso
        have e0 : α' id = α id := U.al id hnR
        have := U.inj id i (.yld y') o (Ne.symm (hne i _ e)) hd (up i _ e) rfl rfl ha (by rw [e0]; exact q.symm)
        cases this
    · exact .inr q
  · rcases D k x (up k x e) with q | ⟨o, q1, q2, q3, q4⟩
    · exact .inl q
    · refine .inr ⟨o, q1, q2, q3, fun hro j hj => ?_⟩
      have hji : j ≠ id := fun q => hsib k x e o q1 (by rw [← q]; exact hj)
      rw [hrest j hji]
      exact q4 hro j hj
theorem Fam.base {B : EnvS → Prop} {ρ : EnvS} : ∀ {lps : List LAnn}, Fam B lps ρ → B ρ
  | [], h => h
  | _ :: _, h => Fam.base h.1
/-- What is known of calls and of lists. -/
def Bs (P : Program) (W0 : World) (con : Con) (ls : List LD) (ρ : EnvS) : Prop := ConOkW P ρ W0 con ∧ ∀ L ∈ ls, LOk ρ W0 L
theorem callR_sound {con : Con} {ls : List LD} {W0 : World} (hm : P.follows .mixedOrders = true) (fuel : Nat) : ∀ (d : Nat) (lps : List LAnn) (ρ : EnvS), Fam (Bs P W0 con ls) lps ρ → CallOk P ρ W0 (callR P con ls fuel d lps)
  | 0, lps, ρ, hF => ⟨hF.base.2, fun tg args hp nx pc v d n' pc' _ hr => (T.bad_some hr).elim⟩
  | d + 1, lps, ρ, hF => by
    refine ⟨hF.base.2, ?_⟩
    intro tg args hp nx pc v dd n' pc' hpc hr
    have ih := callR_sound (con := con) (ls := ls) (W0 := W0) hm fuel d
    have hcon := hF.base.1
    cases tg with
    | fn f =>
      simp only [callR, fnE] at hr
      split at hr
      · rename_i u hu
        obtain ⟨q1, q2⟩ := con_ret hcon hpc hu hr
        exact ⟨q1, fun _ _ _ α w hw hO _ => q2 α w hw hO⟩
      · split at hr
        · exact (T.bad_some hr).elim
        · rename_i fn hfn
          split at hr
          · exact (T.bad_some hr).elim
          · rename_i c hc
            split at hr
            case isFalse => exact (T.bad_some hr).elim
            rename_i hle
            have hle' : args.length ≤ fn.ntmps := by simpa using hle
            obtain ⟨⟨x, s⟩, h1, h2⟩ := T.bind_some hr
            have hres : ∃ u d1, resE P fn s.tm (s.d.over (hv hp)) = some u ∧ mksOk (s.d.over (hv hp)) s.mks = true ∧ gcE nx u (dropMk s.mks s.d) = some d1 ∧ (u, d1, s.next, s.pc) = (v, dd, n', pc') ∧ ∀ id, x ≠ .ex id := by
              cases x with
              | ex id => exact (T.bad_some h2).elim
              | norm =>
                simp only at h2
                split at h2
                · rename_i u hu
                  split at h2
                  · rename_i hmk
                    split at h2
                    · rename_i d1 hd1
                      exact ⟨u, d1, hu, hmk, hd1, T.ret_some h2, fun _ e => by cases e⟩
                    · exact (T.bad_some h2).elim
                  · exact (T.bad_some h2).elim
                · exact (T.bad_some h2).elim
              | ret =>
                simp only at h2
                split at h2
                · rename_i u hu
                  split at h2
                  · rename_i hmk
                    split at h2
                    · rename_i d1 hd1
                      exact ⟨u, d1, hu, hmk, hd1, T.ret_some h2, fun _ e => by cases e⟩
                    · exact (T.bad_some h2).elim
                  · exact (T.bad_some h2).elim
                · exact (T.bad_some h2).elim
            obtain ⟨u, d1, hu, hmk, hgc, e, hx⟩ := hres
            cases e
            refine ⟨exec_pc ih hF fuel _ c _ h1 hpc, fun _ hargs hlow α w hw hO => fun hcb => ?_⟩
            have cx : Cx ρ W0 α (hv hp) w nx := ⟨hO, hw, hlow⟩
            have start : Rel ρ α (hv hp) w nx fn.ntmps ⟨pc, tm0 args 0 fn.ntmps, [], nx, []⟩ α { tmps := (args.map (SV.den ρ α)).toArray ++ Array.replicate (fn.ntmps - (args.map (SV.den ρ α)).toArray.size) undef, defers := [] } w := by
              refine ⟨hpc, ⟨fun t s hs => ?_, by simp; omega, rfl⟩, ⟨Upd.nil (Below.refl _ _), DOk.nil⟩, fun m hm => ?_, fun k x e => by simp [Hp.get_nil] at e, Nat.le_refl _, fun m hm => by cases hm⟩
              · obtain ⟨_, h⟩ := tm0_get args 0 fn.ntmps t s hs
                rw [Nat.sub_zero] at h
                rw [← Array.getElem?_toList]
                simp only [Array.toList_append, Array.toList_replicate, List.size_toArray, List.length_map]
                have e : args.map (SV.den ρ α) ++ List.replicate (fn.ntmps - args.length) undef = (args ++ List.replicate (fn.ntmps - args.length) (SV.tup [])).map (SV.den ρ α) := by
                  simp [List.map_replicate, SV.den, undef]
                rw [e, List.getElem?_map, h]
                rfl
              · obtain ⟨s, h3, h4⟩ := tm0_ids args 0 fn.ntmps m hm
                exact lowL_iff.1 (hargs s h3) m h4
            refine callsIn_FW.1 (callsIn_of_wp_marks (F := FW none) (n := 0) hfn hc trivial ?_)
            refine (exec_sound ih hm (rd := none) fuel lps ρ hF cx (fun _ e => by cases e) c _ _ h1 start fun α' a' w' rel' => ?_).1
            have key : LeavesInM (FW none) 0 P fn a'.tmps (Ret ρ nx s.next α (hv hp) w v dd) a'.defers .returning w' := by
              rw [rel'.ra.defers]
              refine marks_leave cx rel'.lo s.mks s.d w' hmk rel'.inv rel'.dl fun w'' hI hl => ?_
              have hobs := inv_obs cx (fun _ q => q.1) hI
              exact ⟨_, resE_run rel'.ra (fun id b hb => hobs.at_ id _ (drop_blk hmk id b hb)) hu, α', rfl, gc_upd hgc hl hI.up⟩
            cases x with
            | norm => exact key
            | ret => exact key
            | ex id => exact absurd rfl (hx id)
    | yl id y =>
      simp only [callR, ylE] at hr
      split at hr
      · exact (T.bad_some hr).elim
      rename_i hchk
      simp only [Bool.not_eq_true', Bool.not_eq_false, Bool.and_eq_true] at hchk
      obtain ⟨hst0, hps⟩ := hchk
      have hst0 := Nat.eq_of_beq_eq_true hst0
      split at hr
      · exact (T.bad_some hr).elim
      rename_i tm htm
      obtain ⟨⟨x, s⟩, h1, h2⟩ := T.bind_some hr
      simp only at h2
      have hpc1 : s.pc.Ok ρ := exec_pc ih hF fuel _ y.asg _ h1 hpc
      split at h2
      · split at h2
        · rename_i y1 hy1
          split at h2
          · exact (T.bad_some h2).elim
          rename_i hs1
          have hs1 : y1.st = 0 := by
            have : y1.st.beq 0 = true := by simpa using hs1
            exact Nat.eq_of_beq_eq_true this
          obtain ⟨⟨x2, s2⟩, h3, h4⟩ := T.bind_some h2
          simp only at h4
          split at h4
          · rename_i y2 hy2
            have hpc2 : s2.pc.Ok ρ := exec_pc ih hF fuel _ y.body _ h3 hpc1
            have hfin : ∃ st p b, (gcE nx (.one (.bool (.lit b))) (Hp.app [(id, some (.yld { y2 with st := st, pend := p }))] (Hp.app s2.d (Hp.app [(id, some (.yld { y1 with st := 1 }))] s.d))) = some dd ∨
                  (calmE (Hp.over hp fun _ => none) id y s.d s2.d = true ∧ st = 0 ∧ p = none ∧ gcE nx (.one (.bool (.lit b))) (Hp.app s2.d s.d) = some dd)) ∧ v = .one (.bool (.lit b)) ∧ n' = s2.next ∧ pc' = s2.pc ∧
                b = p.isNone ∧ lst st = (if p.isNone then .ready else .done) ∧ (match x2 with | .norm => p = none | .ret => p = some .ret | .ex j => p = some (.exit j)) := by
              cases x2 with
              | norm =>
                simp only at h4
                split at h4
                · rename_i hcalm
                  obtain ⟨o, hg⟩ : ∃ o, gcE nx (.one (.bool (.lit true))) (Hp.app s2.d s.d) = o := ⟨_, rfl⟩
                  have h5 := h4
                  rw [hg] at h5
                  cases o with
                  | some d2 =>
                    have := T.ret_some h5
                    cases this
                    exact ⟨0, none, true, .inr ⟨hcalm, rfl, rfl, hg⟩, rfl, rfl, rfl, rfl, rfl, rfl⟩
                  | none => exact (T.bad_some h5).elim
                · obtain ⟨d2, q1, q2⟩ := fin_some h4; cases q2; exact ⟨0, none, true, .inl q1, rfl, rfl, rfl, rfl, rfl, rfl⟩
              | ret => obtain ⟨d2, q1, q2⟩ := fin_some h4; cases q2; exact ⟨2, some .ret, false, .inl q1, rfl, rfl, rfl, rfl, rfl, rfl⟩
              | ex j => obtain ⟨d2, q1, q2⟩ := fin_some h4; cases q2; exact ⟨2, some (.exit j), false, .inl q1, rfl, rfl, rfl, rfl, rfl, rfl⟩
            obtain ⟨st, p, b, hgc, rfl, rfl, rfl, hb, hst, hx2⟩ := hfin
            refine ⟨hpc2, fun hin hargs hlow α w hw hO => fun _ _ hat => ?_⟩
            have hin : hv hp id = some (.yld y) := hin
            have cx : Cx ρ W0 α (hv hp) w nx := ⟨hO, hw, hlow⟩
            have hidx : id < nx := (hlow id _ hin).1
            obtain ⟨fn, tmps, r1, r2, r3, r4, r5⟩ := hat
            have hpsz : ∀ q ∈ y.ps, q < tmps.size := fun q hq => by rw [r1]; simpa using List.all_eq_true.1 hps q hq
            obtain ⟨g1, g2, g3, g4⟩ := putPs_ok (α := α) htm hpsz r2
            have hrd : ∀ l, some id = some l → ∃ y0, hv hp l = some (.yld y0) := fun l e => by cases e; exact ⟨y, hin⟩
            have efold : ∀ (t0 : Array Value), (y.ps.toArray.zip (args.map (SV.den ρ α)).toArray).foldl (fun (t : Array Value) (x : Nat × Value) => t.setIfInBounds x.1 x.2) t0 = (y.ps.zip (args.map (SV.den ρ α))).foldl (fun (t : Array Value) (x : Nat × Value) => t.setIfInBounds x.1 x.2) t0 := by
              intro t0
              rw [← Array.foldl_toList]
              simp
            refine ⟨fn, _, run_yield r5 (by simp [g3]), ?_⟩
            simp only
            refine roundIn_of_wpIn (F := FW none) trivial ?_
            have start : Rel ρ α (hv hp) w nx y.nt ⟨pc, tm, [], nx, []⟩ α { tmps := (y.ps.toArray.zip (args.map (SV.den ρ α)).toArray).foldl (fun (t : Array Value) (x : Nat × Value) => t.setIfInBounds x.1 x.2) tmps, defers := [] } w := by
              rw [efold]
              refine ⟨hpc, ⟨g1, by rw [← r1]; exact g2, rfl⟩, ⟨Upd.nil (Below.refl _ _), DOk.nil⟩, fun m hm => ?_, fun k x e => by simp [Hp.get_nil] at e, Nat.le_refl _, fun m hm => by cases hm⟩
              rcases g4 m hm with q | ⟨s, q1, q2⟩
              · exact (hlow id _ hin).2 m (List.mem_cons_of_mem _ q)
              · exact lowL_iff.1 (hargs s q1) m q2
            have step1 := (exec_sound ih hm (rd := some id) fuel lps ρ hF cx hrd y.asg _ (Exit.then (fun a₁ w₁ => ∃ w₂, (Instr.beginRound (α id).blk).run P w₁ = .ok () w₂ ∧ y.body.wpIn ((FW none).inRound (α id).blk) 0 P (roundPost P (α id).blk (Ret ρ nx s2.next α (hv hp) w (.one (.bool (.lit b))) dd)) a₁ w₂) (fun _ _ _ => False)) h1 start fun α1 a1 w1 rel1 => ?_).1
            · exact step1
            · have eα1 : α1 id = α id := rel1.inv.up.al id fun q => by have := q.1; omega
              have hobs1 := inv_obs cx (fun _ q => q.1) rel1.inv
              obtain ⟨fn1, tmps1, t1, t2, t3, t4, t5⟩ := hobs1.at_ id _ hy1
              have hlow1 := over_low rel1.dl cx.low rel1.lo
              have hrun := run_beginRound (P := P) t5 (by simp [hs1, lst])
              obtain ⟨UB, DB⟩ := eff_obj (ρ := ρ) (n := s.next) (x := some (.yld { y1 with st := 1 })) (ob := .loop { state := .busy, pending := y1.pend, fn := fn1, tmps := tmps1, params := y1.ps.toArray, assign := y1.asg, body := y1.body, defers := (α1 y1.dfr).blk }) hy1 rfl rfl rfl
                (fun o' q => by
                  cases q
                  refine ⟨fn1, tmps1, t1, t2, t3, t4, ?_⟩
                  exact World.putObj_heap_same (Array.getElem?_eq_some_iff.1 t5).1) (fun o' q => by cases q; exact ⟨rfl, rfl⟩) (α := α1) (w := w1)
              have IB := inv_same cx rel1.inv rel1.lo UB DB
              have hlB : DLow s.next (Hp.app [(id, some (.yld { y1 with st := 1 }))] s.d) := (DLow.one (Nat.lt_of_lt_of_le hidx rel1.lo) fun o' q m hm => by cases q; exact (hlow1 id _ hy1).2 m hm).app rel1.dl
              have cx2 := (⟨inv_obs cx (fun _ q => q.1) IB, inv_below cx IB, over_low hlB cx.low rel1.lo⟩ : Cx ρ W0 α1 ((Hp.app [(id, some (.yld { y1 with st := 1 }))] s.d).over (hv hp)) (w1.putObj (α1 id).blk (.loop { state := .busy, pending := y1.pend, fn := fn1, tmps := tmps1, params := y1.ps.toArray, assign := y1.asg, body := y1.body, defers := (α1 y1.dfr).blk })) s.next)
              have hb1 : (Hp.app [(id, some (.yld { y1 with st := 1 }))] s.d).over (hv hp) id = some (.yld { y1 with st := 1 }) := by rw [over_one, if_pos rfl]
              have hrd2 : ∀ l, some id = some l → ∃ y0, (Hp.app [(id, some (.yld { y1 with st := 1 }))] s.d).over (hv hp) l = some (.yld y0) := fun l e => by cases e; exact ⟨_, hb1⟩
              have rel1b : Rel ρ α1 ((Hp.app [(id, some (.yld { y1 with st := 1 }))] s.d).over (hv hp)) (w1.putObj (α1 id).blk (.loop { state := .busy, pending := y1.pend, fn := fn1, tmps := tmps1, params := y1.ps.toArray, assign := y1.asg, body := y1.body, defers := (α1 y1.dfr).blk })) s.next y.nt ⟨s.pc, s.tm, [], s.next, s.mks⟩ α1 a1 (w1.putObj (α1 id).blk (.loop { state := .busy, pending := y1.pend, fn := fn1, tmps := tmps1, params := y1.ps.toArray, assign := y1.asg, body := y1.body, defers := (α1 y1.dfr).blk })) :=
                ⟨rel1.pc, rel1.ra, ⟨Upd.nil (Below.refl _ _), DOk.nil⟩, rel1.tl, fun k x e => by simp [Hp.get_nil] at e, Nat.le_refl _, rel1.ml⟩
              have step2 := (exec_sound ih hm (rd := some id) fuel lps ρ hF cx2 hrd2 y.body _ (roundPost P (α id).blk (Ret ρ nx s2.next α (hv hp) w (.one (.bool (.lit b))) dd)) h3 rel1b fun α2 a2 w2 rel2 => ?_).1
              · refine ⟨_, by rw [← eα1]; exact hrun, ?_⟩
                have eK : rdB α1 (some id) = some (α id).blk := by rw [← eα1]; rfl
                rw [eK] at step2
                exact step2
              have hn2 : s.next ≤ s2.next := rel2.lo
              have I2 := inv_step cx (fun _ q => q.1) IB rel1.lo (fresh_low (over_low hlB cx.low rel1.lo)) rel2.inv.up rel2.inv.ok fun i => rg_join rel1.lo hn2 i
              have hl2 : DLow s2.next (Hp.app s2.d (Hp.app [(id, some (.yld { y1 with st := 1 }))] s.d)) := rel2.dl.app (hlB.mono hn2)
              have hnn : nx ≤ s2.next := Nat.le_trans rel1.lo hn2
              have eα2 : α2 id = α id := I2.up.al id fun q => by have := q.1; omega
              have hobs2 := inv_obs cx (fun _ q => q.1) I2
              have hlow2 := over_low hl2 cx.low hnn
              have hy2' : (Hp.app s2.d (Hp.app [(id, some (.yld { y1 with st := 1 }))] s.d)).over (hv hp) id = some (.yld y2) := by rw [app_over]; exact hy2
              obtain ⟨fn2, tmps2, z1, z2, z3, z4, z5⟩ := hobs2.at_ id _ hy2'
              have hend := run_endRound (P := P) p z5
              obtain ⟨UE, DE⟩ := eff_obj (ρ := ρ) (n := s2.next) (x := some (.yld { y2 with st := st, pend := p })) (ob := .loop { state := if p.isNone then .ready else .done, pending := p, fn := fn2, tmps := tmps2, params := y2.ps.toArray, assign := y2.asg, body := y2.body, defers := (α2 y2.dfr).blk }) hy2' rfl rfl rfl
                (fun o' q => by
                  cases q
                  refine ⟨fn2, tmps2, z1, z2, z3, z4, ?_⟩
                  refine (World.putObj_heap_same (Array.getElem?_eq_some_iff.1 z5).1).trans ?_
                  simp only [hst]) (fun o' q => by cases q; exact ⟨rfl, rfl⟩) (α := α2) (w := w2)
              have IE := inv_same cx I2 hnn UE DE
              have hlE : DLow s2.next (Hp.app [(id, some (.yld { y2 with st := st, pend := p }))] (Hp.app s2.d (Hp.app [(id, some (.yld { y1 with st := 1 }))] s.d))) := (DLow.one (Nat.lt_of_lt_of_le hidx hnn) fun o' q m hm => by cases q; exact (hlow2 id _ hy2').2 m hm).app hl2
              have hret : Ret ρ nx s2.next α (hv hp) w (.one (.bool (.lit b))) dd (.returned (.bool p.isNone)) (w2.putObj (α2 id).blk (.loop { state := if p.isNone then .ready else .done, pending := p, fn := fn2, tmps := tmps2, params := y2.ps.toArray, assign := y2.asg, body := y2.body, defers := (α2 y2.dfr).blk })) := by
                rcases hgc with hgc | ⟨hcalm, rfl, rfl, hgc⟩
                · exact ⟨α2, by rw [hb]; rfl, gc_upd hgc hlE IE.up⟩
                · -- the record is as it was
                  unfold calmE at hcalm
                  split at hcalm
                  case h_2 => cases hcalm
                  rename_i c1 c2 c3
                  have x1 : ¬ Xs (Rg nx s.next) α (hv hp) s.d (α id).blk := fun hX => by
                    have := sib_in hO rel1.inv.ok hX hin rfl rfl
                    rw [c1] at this; cases this
                  have u1 : w1.heap[(α id).blk]? = w.heap[(α id).blk]? := rel1.inv.up.st.block _ (obAt_lt (hO.at_ id _ hin) rfl) x1
                  have x2 : ¬ Xs (Rg s.next s2.next) α1 ((Hp.app [(id, some (.yld { y1 with st := 1 }))] s.d).over (hv hp)) s2.d (α1 id).blk := fun hX => by
                    have := sib_in cx2.obs rel2.inv.ok hX hb1 rfl rfl
                    rw [c2] at this; cases this
                  have u2 := rel2.inv.up.st.block _ (obAt_lt (cx2.obs.at_ id _ hb1) rfl) x2
                  rw [World.putObj_heap_same (Array.getElem?_eq_some_iff.1 t5).1, eα1, ← eα2, z5] at u2
                  rw [← u1, ← eα1, t5] at r5
                  simp only [Option.some.injEq, Obj.loop.injEq, Loop.mk.injEq] at u2 r5
                  obtain ⟨_, _, a1, a2, a3, a4, a5, a6⟩ := u2
                  obtain ⟨_, b0, _⟩ := r5
                  have hfinal := Upd.calm (id := id) (d' := Hp.app s2.d s.d) IE.up IE.ok (fun q => by have := q.1; omega) (by rw [Hp.get_app, one_get, if_pos rfl]) (by rw [Hp.get_app, c2, c1]) (fun i hi => by
                      have hi' : id ≠ i := fun q => hi q.symm
                      rw [Hp.get_app, Hp.get_app, one_get, if_neg hi', Hp.get_app, Hp.get_app, one_get, if_neg hi']) (fun k x e o ho => by
                      have := List.all_eq_true.1 hcalm _ (mem_of_get e)
                      have ho' : Hp.over hp (fun _ => none) k = some o := ho
                      rw [ho'] at this
                      simp only [Bool.not_eq_true', List.any_eq_false] at this
                      intro hm
                      exact this id hm (Nat.beq_refl id)) (by
                      rw [← eα2, World.putObj_heap_same (Array.getElem?_eq_some_iff.1 z5).1]
                      rw [eα2, ← u1, ← eα1, t5]
                      simp only [Option.isNone_none, if_true, a1, a2, a3, a4, a5, a6, hs1, lst]
                      rw [b0, c3])
                  refine ⟨α2, by rw [hb]; rfl, gc_upd hgc (rel2.dl.app (rel1.dl.mono hn2)) hfinal.1⟩
              rw [eα2] at hend hret
              cases x2 with
              | norm => simp only at hx2; subst hx2; exact ⟨_, _, hend, hret⟩
              | ret => simp only at hx2; subst hx2; exact ⟨_, _, hend, hret⟩
              | ex j => simp only at hx2; subst hx2; exact ⟨_, _, hend, hret⟩
          · exact (T.bad_some h4).elim
        · exact (T.bad_some h2).elim
      · exact (T.bad_some h2).elim
/-- The names stand for nothing. -/
def αN : Nat → Pl := fun _ => default
theorem obs_none {B : Nat} {α : Nat → Pl} {w : World} : Obs ρ B α w (hv []) := ⟨fun _ _ e => by simp [hv, Hp.over, Hp.get_nil] at e, fun _ _ e => by simp [hv, Hp.over, Hp.get_nil] at e, fun _ _ _ _ _ e => by simp [hv, Hp.over, Hp.get_nil] at e⟩
theorem call_treeL {con : Con} {ls : List LD} {lps : List LAnn} {w : World} (hF : Fam (Bs P w con ls) lps ρ) {pc pc' : PC} (hpc : pc.Ok ρ) (hm : P.follows .mixedOrders = true) {fuel d : Nat} {f : FuncId} {args : List SV} (hcb : callable P f = true) (hargs : args.all (·.below 0) = true)
    {v : SV} {dd : Hp} {n' : Nat} (hr : ((callR P con ls fuel d lps).run (.fn f) args [] 0 pc).pick ρ = some (v, dd, n', pc')) : pc'.Ok ρ ∧ (v.below 0 = true → Calls P f (args.map (SV.den ρ αN)).toArray w (fun e w' => e = .returned (v.den ρ αN) ∧ Below w.heap.size w w')) := by
  have hok := (callR_sound hm fuel d lps ρ hF).2 (.fn f) args [] 0 pc v dd n' pc' hpc hr
  refine ⟨hok.1, fun hb => ?_⟩
  have := hok.2 trivial (fun s hs => List.all_eq_true.1 hargs s hs) (fun id o e => by simp [hv, Hp.over, Hp.get_nil] at e) αN w (Below.refl _ _) obs_none
  refine (this hcb).mono ?_
  rintro e w' ⟨α', rfl, U⟩
  refine ⟨?_, U.st.below (Nat.le_refl _) fun k _ hx => ?_⟩
  · rw [SV.den_ids (α := α') (α' := αN) fun m hm => absurd (lowL_iff.1 hb m hm) (Nat.not_lt_zero _)]
  · obtain ⟨i, o, _, _, h3, _⟩ := hx
    simp [hv, Hp.over, Hp.get_nil] at h3
/-- **The tree of a call tells what it hands back, behind a world of which something is known.** -/
theorem tree_callsL {con : Con} {ls : List LD} {lps : List LAnn} {w : World} (hF : Fam (Bs P w con ls) lps ρ) {pc : PC} (hpc : pc.Ok ρ) (hm : P.follows .mixedOrders = true) {fuel d : Nat} {f : FuncId} {args : List SV} {t : T SV} (ht : treeL P con ls lps pc fuel d f args = t) (hcb : callable P f = true) (hargs : args.all (·.below 0) = true)
    {v : SV} (hv : t.pick ρ = some v) : Calls P f (args.map (SV.den ρ αN)).toArray w (fun e w' => e = .returned (v.den ρ αN) ∧ Below w.heap.size w w') := by
  subst ht
  unfold treeL at hv
  obtain ⟨⟨u, dd, n', pc'⟩, h1, h2⟩ := T.bind_some hv
  simp only at h2
  split at h2
  · rename_i hb
    have := T.ret_some h2
    subst this
    exact (call_treeL hF hpc hm hcb hargs h1).2 hb
  · exact (T.bad_some h2).elim
theorem fam0 {con : Con} {w : World} (hcon : ConOkW P ρ w con) : Fam (Bs P w con []) [] ρ := ⟨hcon, fun _ h => by cases h⟩
/-- **The tree of a call tells what it hands back, behind a world of which something is known.** -/
theorem tree_callsW {con : Con} {w : World} (hcon : ConOkW P ρ w con) {pc : PC} (hpc : pc.Ok ρ) (hm : P.follows .mixedOrders = true) {fuel d : Nat} {f : FuncId} {args : List SV} {t : T SV} (ht : tree P con pc fuel d f args = t) (hcb : callable P f = true) (hargs : args.all (·.below 0) = true)
    {v : SV} (hv : t.pick ρ = some v) : Calls P f (args.map (SV.den ρ αN)).toArray w (fun e w' => e = .returned (v.den ρ αN) ∧ Below w.heap.size w w') :=
  tree_callsL (fam0 hcon) hpc hm ht hcb hargs hv
/-- **The tree of a call tells what it hands back, in every world.** -/
theorem tree_calls {con : Con} (hcon : ConOk P ρ con) {pc : PC} (hpc : pc.Ok ρ) (hm : P.follows .mixedOrders = true) {fuel d : Nat} {f : FuncId} {args : List SV} {t : T SV} (ht : tree P con pc fuel d f args = t) (hcb : callable P f = true) (hargs : args.all (·.below 0) = true)
    {v : SV} (hv : t.pick ρ = some v) (w : World) : Calls P f (args.map (SV.den ρ αN)).toArray w (fun e w' => e = .returned (v.den ρ αN) ∧ Below w.heap.size w w') :=
  tree_callsW (hcon.at w) hpc hm ht hcb hargs hv
/-- The tree comes to 'true'. -/
def T.Good (ρ : EnvS) (t : T SV) : Prop := ∃ v, t.pick ρ = some v ∧ v.den ρ αN = .bool true
theorem Good.br {c : BE} {t e : T SV} (h1 : c.den ρ = true → t.Good ρ) (h2 : c.den ρ = false → e.Good ρ) : (T.br c t e).Good ρ := by
  cases hc : c.den ρ
  · obtain ⟨v, q1, q2⟩ := h2 hc
    exact ⟨v, by simp only [T.pick, hc, Bool.false_eq_true, if_false, q1], q2⟩
  · obtain ⟨v, q1, q2⟩ := h1 hc
    exact ⟨v, by simp only [T.pick, hc, if_true, q1], q2⟩
theorem Good.ret {b : BE} (h : b.den ρ = true) : (T.ret (.one (.bool b))).Good ρ := ⟨_, rfl, by simp [SV.den, SCl.den, h]⟩
theorem Good.yes : (T.ret (.one (.bool (.lit true)))).Good ρ := Good.ret rfl
theorem Good.bad {n : Nat} (h : False) : (T.bad n : T SV).Good ρ := h.elim
theorem isTrue_good {t : T SV} (h : t.isTrue = true) : t.Good ρ := by
  unfold T.isTrue at h
  split at h
  · exact Good.yes
  · cases h
theorem Good.of_prune : ∀ {t : T SV}, t.prune.Good ρ → t.Good ρ
  | .ret v, h => h
  | .bad n, h => h
  | .br c t e, h => by
    simp only [T.prune] at h
    split at h
    · rename_i hc
      simp only [Bool.and_eq_true] at hc
      exact Good.br (fun _ => Good.of_prune (isTrue_good hc.1)) (fun _ => Good.of_prune (isTrue_good hc.2))
    · obtain ⟨v, h1, h2⟩ := h
      simp only [T.pick] at h1
      refine Good.br (fun hc => Good.of_prune ⟨v, ?_, h2⟩) (fun hc => Good.of_prune ⟨v, ?_, h2⟩)
      · simpa [hc] using h1
      · simpa [hc] using h1
/-- **A law: whatever the case, true.** -/
theorem tree_lawL {con : Con} {ls : List LD} {lps : List LAnn} {w : World} (hF : Fam (Bs P w con ls) lps ρ) {pc : PC} (hpc : pc.Ok ρ) (hm : P.follows .mixedOrders = true) {fuel d : Nat} {f : FuncId} {args : List SV} {t : T SV} (ht : treeBL P con ls lps pc fuel d f args = t) (hcb : callable P f = true) (hargs : args.all (·.below 0) = true)
    (hg : t.Good ρ) : Calls P f (args.map (SV.den ρ αN)).toArray w (fun e w' => e = .returned (.bool true) ∧ Below w.heap.size w w') := by
  subst ht
  obtain ⟨v, h1, h2⟩ := Good.of_prune hg
  obtain ⟨⟨u, dd, n', pc'⟩, h3, h4⟩ := T.bind_some h1
  have hok := call_treeL hF hpc hm hcb hargs h3
  simp only at h4
  split at h4
  · rename_i b
    obtain ⟨pc2, _, h5⟩ := T.cond_some hok.1 h4
    have := T.ret_some h5
    subst this
    have hb : b.den ρ = true := by simpa [SV.den, SCl.den, BE.den] using h2
    have := hok.2 rfl
    simpa [SV.den, SCl.den, hb] using this
  · exact (T.bad_some h4).elim
/-- **A law: whatever the case, true.** -/
theorem tree_lawW {con : Con} {w : World} (hcon : ConOkW P ρ w con) {pc : PC} (hpc : pc.Ok ρ) (hm : P.follows .mixedOrders = true) {fuel d : Nat} {f : FuncId} {args : List SV} {t : T SV} (ht : treeB P con pc fuel d f args = t) (hcb : callable P f = true) (hargs : args.all (·.below 0) = true)
    (hg : t.Good ρ) : Calls P f (args.map (SV.den ρ αN)).toArray w (fun e w' => e = .returned (.bool true) ∧ Below w.heap.size w w') :=
  tree_lawL (fam0 hcon) hpc hm ht hcb hargs hg
/-- **A law: whatever the case, true.** -/
theorem tree_law {con : Con} (hcon : ConOk P ρ con) {pc : PC} (hpc : pc.Ok ρ) (hm : P.follows .mixedOrders = true) {fuel d : Nat} {f : FuncId} {args : List SV} {t : T SV} (ht : treeB P con pc fuel d f args = t) (hcb : callable P f = true) (hargs : args.all (·.below 0) = true)
    (hg : t.Good ρ) (w : World) : Calls P f (args.map (SV.den ρ αN)).toArray w (fun e w' => e = .returned (.bool true) ∧ Below w.heap.size w w') :=
  tree_lawW (hcon.at w) hpc hm ht hcb hargs hg
theorem PC.Ok.nil : PC.Ok ρ [] := fun _ _ h => by cases h
/-- A tree whose every case hands back what it should. -/
def T.All (ρ : EnvS) (R : Value → Prop) (t : T SV) : Prop := ∃ v, t.pick ρ = some v ∧ R (v.den ρ αN)
theorem All.br {R : Value → Prop} {c : BE} {t e : T SV} (h1 : c.den ρ = true → t.All ρ R) (h2 : c.den ρ = false → e.All ρ R) : (T.br c t e).All ρ R := by
  cases hc : c.den ρ
  · obtain ⟨v, q1, q2⟩ := h2 hc
    exact ⟨v, by simp only [T.pick, hc, Bool.false_eq_true, if_false, q1], q2⟩
  · obtain ⟨v, q1, q2⟩ := h1 hc
    exact ⟨v, by simp only [T.pick, hc, if_true, q1], q2⟩
theorem All.ret {R : Value → Prop} {v : SV} (h : R (v.den ρ αN)) : (T.ret v).All ρ R := ⟨v, rfl, h⟩
theorem All.bad {R : Value → Prop} {n : Nat} (h : False) : (T.bad n : T SV).All ρ R := h.elim
/-- **A function: whatever the case, what it should hand back.** -/
theorem tree_fun {con : Con} (hcon : ConOk P ρ con) {pc : PC} (hpc : pc.Ok ρ) (hm : P.follows .mixedOrders = true) {fuel d : Nat} {f : FuncId} {args : List SV} {t : T SV} (ht : tree P con pc fuel d f args = t) (hcb : callable P f = true) (hargs : args.all (·.below 0) = true)
    {u : Value} (hg : t.All ρ (· = u)) (w : World) : Calls P f (args.map (SV.den ρ αN)).toArray w (fun e w' => e = .returned u ∧ Below w.heap.size w w') := by
  obtain ⟨v, h1, h2⟩ := hg
  have := tree_calls hcon hpc hm ht hcb hargs h1 w
  rwa [h2] at this
/-- **A function over lists: whatever the case, what it should hand back.** -/
theorem tree_funL {con : Con} {ls : List LD} {lps : List LAnn} {w : World} (hF : Fam (Bs P w con ls) lps ρ) {pc : PC} (hpc : pc.Ok ρ) (hm : P.follows .mixedOrders = true) {fuel d : Nat} {f : FuncId} {args : List SV} {t : T SV} (ht : treeL P con ls lps pc fuel d f args = t) (hcb : callable P f = true) (hargs : args.all (·.below 0) = true)
    {u : Value} (hg : t.All ρ (· = u)) : Calls P f (args.map (SV.den ρ αN)).toArray w (fun e w' => e = .returned u ∧ Below w.heap.size w w') := by
  obtain ⟨v, h1, h2⟩ := hg
  have := tree_callsL hF hpc hm ht hcb hargs h1
  rwa [h2] at this
/-- A list that came in lies behind, too. -/
theorem LOk.mono {W0 w : World} {L : LD} (h : LOk ρ W0 L) (hb : Below W0.heap.size W0 w) : LOk ρ w L := by
  refine ⟨h.nn, h.pt, fun j c k hj hk => ?_⟩
  have hc := h.cell j c k hj hk
  have hlt : ρ.a L.i < W0.heap.size := by
    unfold World.cell? at hc
    simp only at hc
    by_cases q : ρ.a L.i < W0.heap.size
    · exact q
    · rw [Array.getElem?_eq_none (by omega)] at hc; cases hc
  rw [hb.cell (p := ⟨ρ.a L.i, _, none⟩) hlt, hc]
end
end Go.Proofs.Ytmpadjlplgajcaa
