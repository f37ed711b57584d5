/- The executor's laws: bodies. -/
import Derived.Test.YtmpadjlplgajcaaE4R
namespace Go.Proofs.Ytmpadjlplgajcaa
open Go.RowKit
section
variable {ρ : EnvS} {P : Program} {W0 W : World} {α0 : Nat → Pl} {h0 : Vw} {nx nt : Nat}
theorem pruneG_get : ∀ {l : List Nat} {bm : Nat} {tm : Tm} {t : Nat} {s : SV}, (pruneG bm l tm).get t = some s → tm.get t = some s
  | [], bm, tm, t, s, h => by simp [pruneG, Tm.get_nil] at h
  | u :: l, bm, tm, t, s, h => by
    simp only [pruneG] at h
    split at h
    · exact pruneG_get h
    · split at h
      · rename_i v hv
        rw [Tm.get_cons] at h
        split at h
        · rename_i e; cases h; subst e; exact hv
        · exact pruneG_get h
      · exact pruneG_get h
theorem pruneT_get {l : List Nat} {tm : Tm} {t : Nat} {s : SV} (h : (pruneT l tm).get t = some s) : tm.get t = some s := pruneG_get h
theorem pruneG_ids : ∀ {l : List Nat} {bm : Nat} {tm : Tm} {m : Nat}, m ∈ (pruneG bm l tm).ids → m ∈ tm.ids
  | [], bm, tm, m, h => by simp [pruneG, Tm.ids] at h
  | u :: l, bm, tm, m, h => by
    simp only [pruneG] at h
    split at h
    · exact pruneG_ids h
    · split at h
      · rename_i v hv
        simp only [Tm.ids, List.mem_append] at h
        exact h.elim (Tm.get_ids hv m) pruneG_ids
      · exact pruneG_ids h
theorem pruneT_ids {l : List Nat} {tm : Tm} {m : Nat} (h : m ∈ (pruneT l tm).ids) : m ∈ tm.ids := pruneG_ids h
/-- What is called, over the objects that it is led to. -/
theorem call_any {call : CallF} (hcall : CallOk P ρ W0 call) {tg : Tg} {args : List SV} {h : Vw} {n n' : Nat} {pc pc' : PC} {v : SV} {d : Hp} {ids : List Nat} {α : Nat → Pl} {w : World} (hpc : pc.Ok ρ) (hr : (call.run tg args (pickL h ids) n pc).pick ρ = some (v, d, n', pc')) (hlow : LowV n h) (hO : Obs ρ W0.heap.size α w h) (hb : Below W0.heap.size W0 w)
    (hargs : ∀ s ∈ args, s.below n = true) (hin : Tg.in (hv (pickL h ids)) tg) : pc'.Ok ρ ∧ CallAt P ρ α w args (fun e w' => ∃ α', e = .returned (v.den ρ α') ∧ Upd (Rg n n') ρ α α' h w w' d) tg := by
  have hview : ∀ id, hv (pickL h ids) id = if id ∈ ids then h id else none := fun id => pickL_get h id ids
  have hsub : ∀ i o, hv (pickL h ids) i = some o → h i = some o := fun i o ho => by
    rw [hview] at ho
    split at ho
    · exact ho
    · cases ho
  have hok := hcall.2 tg args _ n pc v d n' pc' hpc hr
  refine ⟨hok.1, ?_⟩
  have := hok.2 hin hargs (fun id o ho => hlow id o (hsub id o ho)) α w hb (hO.sub hsub)
  have more : ∀ e w', Ret ρ n n' α (hv (pickL h ids)) w v d e w' → ∃ α', e = .returned (v.den ρ α') ∧ Upd (Rg n n') ρ α α' h w w' d := fun e w' ⟨α', e1, U⟩ => ⟨α', e1, U.more fun i o _ ho => hsub i o ho⟩
  cases tg with
  | fn g => exact fun hc => (this hc).mono more
  | yl id y =>
    intro h' hy hat
    obtain ⟨fn, tmps, q1, q2⟩ := this h' hy hat
    exact ⟨fn, tmps, q1, q2.mono more⟩
theorem exec_succ (P : Program) (rc : RunF) (nt : Nat) (rd : Option Nat) (n : Nat) (lps : List LAnn) (h0 : Vw) (c : Code) (s : St) : exec P rc nt rd (n + 1) lps h0 c s = stepX P rc nt rd (exec P rc nt rd n) lps h0 c s := rfl
theorem exec_sound {rc : RunF} {B : EnvS → Prop} (hrc : ∀ lps ρ, Fam B lps ρ → CallOk P ρ W0 (rc lps)) (hm : P.follows .mixedOrders = true) {rd : Option Nat} :
    ∀ (n : Nat) (lps : List LAnn) (ρ : EnvS) (_ : Fam B lps ρ) {α0 : Nat → Pl} {h0 : Vw} {W : World} {nx : Nat} (_ : Cx ρ W0 α0 h0 W nx) (_ : ∀ l, rd = some l → ∃ y, h0 l = some (.yld y)) (c : Code) (s : St) {x : SXt} {s' : St} {α : Nat → Pl} {a : Act} {w : World} (Q : Exit → Act → World → Prop),
      (exec P rc nt rd n lps h0 c s).pick ρ = some (x, s') → Rel ρ α0 h0 W nx nt s α a w → (∀ α' a' w', Rel ρ α0 h0 W nx nt s' α' a' w' → Q x.exit a' w') →
      c.wpIn (FW (rdB α0 rd)) 0 P Q a w ∧ ∀ body, c = .loop body → headIn (FW (rdB α0 rd)) 0 P body Q a w
  | 0, lps, ρ, hF, α0, h0, W, nx, cx, hrd, c, s, x, s', α, a, w, Q, hr, _, _ => (T.bad_some hr).elim
  | n + 1, lps, ρ, hF, α0, h0, W, nx, cx, hrd, c, s, x, s', α, a, w, Q, hr, rel, hQ => by
    have hcall := hrc lps ρ hF
    have triv : c.wpIn (FW (rdB α0 rd)) 0 P Q a w → (∀ body, c ≠ .loop body) → c.wpIn (FW (rdB α0 rd)) 0 P Q a w ∧ ∀ body, c = .loop body → headIn (FW (rdB α0 rd)) 0 P body Q a w := fun h1 h2 => ⟨h1, fun body e => absurd e (h2 body)⟩
    cases c with
    | skip =>
      have := T.ret_some hr
      cases this
      exact triv (wpIn_skip (hQ α a w rel)) (fun _ e => by cases e)
    | label l =>
      have := T.ret_some hr
      cases this
      exact triv (wpIn_label (hQ α a w rel)) (fun _ e => by cases e)
    | exit id =>
      have := T.ret_some hr
      cases this
      exact triv (wpIn_exit (hQ α a w rel)) (fun _ e => by cases e)
    | ret =>
      have := T.ret_some hr
      cases this
      exact triv (wpIn_ret (hQ α a w rel)) (fun _ e => by cases e)
    | region id ops draw =>
      rw [exec_succ] at hr
      simp only [stepX] at hr
      obtain ⟨s1, h1, h2⟩ := T.bind_some hr
      have := T.ret_some h2
      cases this
      exact triv (reg_sound hcall hm cx h1 rel fun α' a' w' q _ _ => hQ α' a' w' q) (fun _ e => by cases e)
    | seq c d =>
      rw [exec_succ] at hr
      simp only [stepX] at hr
      obtain ⟨⟨y, s1⟩, h1, h2⟩ := T.bind_some hr
      refine triv (wpIn_seq ?_) (fun _ e => by cases e)
      refine (exec_sound hrc hm n lps ρ hF cx hrd c s _ h1 rel fun α' a' w' rel' => ?_).1
      cases y with
      | norm => exact (exec_sound hrc hm n lps ρ hF cx hrd d s1 Q h2 rel' hQ).1
      | ex id => have := T.ret_some h2; cases this; exact hQ α' a' w' rel'
      | ret => have := T.ret_some h2; cases this; exact hQ α' a' w' rel'
    | cond b c d =>
      rw [exec_succ] at hr
      simp only [stepX] at hr
      split at hr
      · rename_i y hy
        obtain ⟨pc', h1, h2⟩ := T.cond_some rel.pc hr
        have hev : a.eval b = .bool (y.den ρ) := ev_den rel.ra hy
        refine triv (wpIn_cond hev ?_) (fun _ e => by cases e)
        have := (exec_sound hrc hm n lps ρ hF cx hrd _ _ Q h2 ⟨h1, rel.ra, rel.inv, rel.tl, rel.dl, rel.lo, rel.ml⟩ hQ).1
        cases hq : y.den ρ <;> rw [hq] at this <;> exact this
      · exact (T.bad_some hr).elim
    | block id body =>
      rw [exec_succ] at hr
      simp only [stepX] at hr
      obtain ⟨⟨y, s1⟩, h1, h2⟩ := T.bind_some hr
      refine triv (wpIn_block ?_) (fun _ e => by cases e)
      refine (exec_sound hrc hm n lps ρ hF cx hrd body s _ h1 rel fun α' a' w' rel' => ?_).1
      cases y with
      | norm => have := T.ret_some h2; cases this; exact hQ α' a' w' rel'
      | ret => have := T.ret_some h2; cases this; exact hQ α' a' w' rel'
      | ex j =>
        simp only at h2
        split at h2
        · rename_i hj
          have := T.ret_some h2
          cases this
          have hj' := Nat.eq_of_beq_eq_true hj
          subst hj'
          show Exit.inBlock _ Q (.exit _) a' w'
          simp only [Exit.inBlock, if_true]
          exact hQ α' a' w' rel'
        · rename_i hj
          have := T.ret_some h2
          cases this
          have hj' : ¬ j = id := fun e => hj (by rw [e]; exact Nat.beq_refl id)
          show Exit.inBlock _ Q (.exit _) a' w'
          simp only [Exit.inBlock, hj', if_false]
          exact hQ α' a' w' rel'
    | loop body =>
      rw [exec_succ] at hr
      simp only [stepX] at hr
      split at hr
      · obtain ⟨⟨y, s1⟩, h1, h2⟩ := T.bind_some hr
        have key : headIn (FW (rdB α0 rd)) 0 P body Q a w := by
          refine head_round ?_
          refine (exec_sound hrc hm n lps ρ hF cx hrd body s _ h1 rel fun α' a' w' rel' => ?_).1
          cases y with
          | norm => exact (exec_sound hrc hm n lps ρ hF cx hrd (.loop body) s1 Q h2 rel' hQ).2 body rfl
          | ex id => have := T.ret_some h2; cases this; exact hQ α' a' w' rel'
          | ret => have := T.ret_some h2; cases this; exact hQ α' a' w' rel'
        exact ⟨head_loop key, fun body' e => by cases e; exact key⟩
      · rename_i A tl hfind
        have hfind' : LAnn.find (keyC body) (fun A => A.startOk rd (s.d.over h0) s) lps = some (A, tl) := by
          cases lps with
          | nil => cases hfind
          | cons _ _ => exact hfind
        obtain ⟨hso, _, hK0, ⟨hApc, hAx0⟩, hrounds⟩ := Fam.find hfind' hF
        have hso : A.startOk rd (s.d.over h0) s = true := hso
        cases hall : (A.pcR.all fun pcr => (exec P rc nt rd n tl (Hp.over (A.view (s.d.over h0)) fun _ => none) body ⟨pcr, A.tms, [], A.nx, []⟩).all (A.backOk (Hp.over (A.view (s.d.over h0)) fun _ => none))) with
        | false => rw [hall] at hr; exact (T.bad_some hr).elim
        | true =>
          · rw [hall] at hr
            simp only [cond_true] at hr
            rw [List.all_eq_true] at hall
            have hS := startOk_spec hso
            have r0 := start_rel cx hS hApc hAx0 rel
            obtain ⟨⟨y, s1⟩, h1, h2⟩ := T.bind_some hr
            have last : ∀ {α : Nat → Pl} {a : Act} {w : World}, Rel ρ α0 h0 W nx nt (SJ A (A.sg s.tm (s.d.over h0)).tgts s (ρ.v A.i)) α a w → headIn (FW (rdB α0 rd)) 0 P body Q a w := fun r => by
              refine head_round ?_
              refine (exec_sound hrc hm n lps ρ hF cx hrd body _ _ h1 (last_rel cx hS rel.dl r) fun α' a' w' rel' => ?_).1
              cases y with
              | norm => exact (T.bad_some h2).elim
              | ex id => have := T.ret_some h2; cases this; exact hQ α' a' w' rel'
              | ret => have := T.ret_some h2; cases this; exact hQ α' a' w' rel'
            have all : ∀ (m : Nat) (j : Int), 0 ≤ j → j + m = ρ.v A.i → ∀ {α : Nat → Pl} {a : Act} {w : World}, Rel ρ α0 h0 W nx nt (SJ A (A.sg s.tm (s.d.over h0)).tgts s j) α a w → headIn (FW (rdB α0 rd)) 0 P body Q a w := by
              intro m
              induction m with
              | zero =>
                intro j _ e α a w r
                have e : j = ρ.v A.i := by omega
                rw [e] at r
                exact last r
              | succ m ih =>
                intro j hj e α a w r
                obtain ⟨⟨⟨pcr, hpm, hpcR⟩, hAx⟩, hFj⟩ := hrounds j hj (by omega)
                refine round_step cx hS rel.dl rel.lo hrd hpcR hAx (fun Q' cx' relR hb => ?_) r fun αn a' w' r' => ih (j + 1) (by omega) (by omega) r'
                obtain ⟨⟨y2, s2⟩, p1, p2⟩ := T.all_pick (ρ := ρ.upd A.i j) (hall pcr hpm)
                obtain ⟨rfl, _⟩ := backOk_spec p2
                exact (exec_sound hrc hm n tl (ρ.upd A.i j) hFj cx' hS.rd body _ _ p1 relR fun α' a' w' rel' => hb s2 α' a' w' p2 rel').1
            have key := all (ρ.v A.i).toNat 0 (Int.le_refl 0) (by omega) r0
            exact ⟨head_loop key, fun body' e => by cases e; exact key⟩
    | rangeFunc f ps asg body =>
      refine triv ?_ (fun _ e => by cases e)
      rw [exec_succ] at hr
      simp only [stepX, rangeE] at hr
      have hobs := inv_obs cx (fun _ q => q.1) rel.inv
      have hlow := over_low rel.dl cx.low rel.lo
      split at hr
      · exact (T.bad_some hr).elim
      rename_i df yid d0 mk hmk
      -- the record is laid
      have start : ∃ (α1 : Nat → Pl) (mark : List Deferred) (w1 : World), (∀ fn, ∃ l w1', (Instr.enterLoop fn a.tmps ps asg body (rdB α0 rd)).run P w = .ok (l, mark) w1' ∧ l = (α1 yid).blk ∧ (α1 yid).fn = .yield l ∧ (α1 yid).caps = #[] ∧
            Inv ρ α0 h0 W (Rg nx (yid + 1)) α1 w1' (Hp.app [(yid, some (.yld ⟨nt, pruneT (readsC asg ++ readsC body) s.tm, ps.toList, asg, body, df, 0, none⟩))] (Hp.app d0 s.d))) ∧
          (∀ m, m < s.next → α1 m = α m) ∧ s.next ≤ yid ∧ (∀ m ∈ mk, m < yid) ∧ df < yid + 1 ∧ DLow (yid + 1) (Hp.app [(yid, some (.yld ⟨nt, pruneT (readsC asg ++ readsC body) s.tm, ps.toList, asg, body, df, 0, none⟩))] (Hp.app d0 s.d)) ∧
          mark ++ a.defers = mk.map fun id => { target := .collected (α1 id).blk, args := #[] } := by
        split at hmk
        · -- an outermost loop
          cases hmk
          let p1 : Pl := ⟨w.heap.size, 0, .func 0, #[]⟩
          let p2 : Pl := ⟨w.heap.size + 1, 0, .yield (w.heap.size + 1), #[]⟩
          have l1 : DLow (s.next + 1) (Hp.app [(s.next, some Ob.dfr)] s.d) := (DLow.one (Nat.lt_succ_self _) fun o e m hm => by cases e; cases hm).app (rel.dl.mono (Nat.le_succ _))
          have I1 : Inv ρ α0 h0 W (Rg nx (s.next + 1)) (setA α s.next p1) (w.alloc (.deferred (some []))) (Hp.app [(s.next, some Ob.dfr)] s.d) :=
            inv_new (p := p1) cx rel.inv rel.lo rel.dl (stays_alloc _ _) (by show (w.heap.push _)[(setA α s.next p1 s.next).blk]? = _; rw [setA_same]; simp [p1]) fun _ => Nat.le_refl _
          have tlow : ∀ t u, s.tm.get t = some u → ∀ m ∈ u.ids, m ≠ s.next ∧ m ≠ s.next + 1 := fun t u hu m hm => by have := rel.tl m (Tm.get_ids hu m hm); omega
          refine ⟨setA (setA α s.next p1) (s.next + 1) p2, [{ target := .collected w.heap.size, args := #[] }], w, fun fn => ⟨w.heap.size + 1, (w.alloc (.deferred (some []))).alloc (.loop { state := .ready, pending := none, fn := fn, tmps := a.tmps, params := ps, assign := asg, body := body, defers := w.heap.size }), ?_, by rw [setA_same], by rw [setA_same], by rw [setA_same], ?_⟩, fun m hm => by rw [setA_other (by omega), setA_other (by omega)], Nat.le_succ _, fun m hm => ?_, by omega, ?_, ?_⟩
          · exact run_enterLoop_outer fn a.tmps ps asg body
          · refine inv_new (p := p2) cx I1 (Nat.le_trans rel.lo (Nat.le_succ _)) l1 (stays_alloc _ _) ⟨fn, a.tmps, rel.ra.size, fun t u hu => ?_, by rw [setA_same], by rw [setA_same], ?_⟩ fun _ => by simp [p2]
            · exact (rel.ra.get t u (pruneT_get hu)).trans (congrArg some (SV.den_ids fun m hm => by rw [setA_other (tlow t u (pruneT_get hu) m hm).2, setA_other (tlow t u (pruneT_get hu) m hm).1]))
            · rw [setA_same, setA_other (by omega : s.next ≠ s.next + 1), setA_same]
              show ((w.alloc (.deferred (some []))).heap.push _)[w.heap.size + 1]? = _
              rw [← show (w.alloc (.deferred (some []))).heap.size = w.heap.size + 1 from by simp, Array.getElem?_push_size]
              simp [p1, lst]
          · rcases List.mem_cons.1 hm with rfl | hm
            · omega
            · have := rel.ml m hm; omega
          · refine (DLow.one (by omega) fun o e m hm => ?_).app (l1.mono (by omega))
            cases e
            rcases List.mem_cons.1 hm with rfl | hm
            · show s.next < _; omega
            · have : m < s.next := rel.tl m (pruneT_ids hm)
              omega
          · rw [List.map_cons, setA_other (by omega : s.next ≠ s.next + 1), setA_same, rel.ra.defers]
            simp only [List.cons_append, List.nil_append]
            congr 1
            exact List.map_congr_left fun m hm => by have := rel.ml m hm; rw [setA_other (by omega), setA_other (by omega)]
        · -- a loop within a round
          rename_i l
          split at hmk
          · rename_i y hy
            cases hmk
            obtain ⟨fn0, tmps0, q1, q2, q3, q4, q5⟩ := hobs.at_ l _ hy
            obtain ⟨y0, hl0⟩ := hrd l rfl
            have hlx := (cx.low l _ hl0).1
            have eα : α l = α0 l := rel.inv.up.al l fun q => by have := q.1; omega
            let p2 : Pl := ⟨w.heap.size, 0, .yield w.heap.size, #[]⟩
            have tlow : ∀ t u, s.tm.get t = some u → ∀ m ∈ u.ids, m ≠ s.next := fun t u hu m hm => by have := rel.tl m (Tm.get_ids hu m hm); omega
            have hdf : y.dfr < s.next := (hlow l _ hy).2 y.dfr (List.mem_cons_self ..)
            refine ⟨setA α s.next p2, [], w, fun fn => ⟨w.heap.size, w.alloc (.loop { state := .ready, pending := none, fn := fn, tmps := a.tmps, params := ps, assign := asg, body := body, defers := (α y.dfr).blk }), ?_, by rw [setA_same], by rw [setA_same], by rw [setA_same], ?_⟩, fun m hm => by rw [setA_other (by omega)], Nat.le_refl _, fun m hm => rel.ml m hm, by omega, ?_, ?_⟩
            · show (Instr.enterLoop fn a.tmps ps asg body (some (α0 l).blk)).run P w = _
              rw [← eα]
              exact run_enterLoop_inner q5 fn a.tmps ps asg body
            · refine inv_new (p := p2) cx rel.inv rel.lo rel.dl (stays_alloc _ _) ⟨fn, a.tmps, rel.ra.size, fun t u hu => ?_, by rw [setA_same], by rw [setA_same], ?_⟩ fun _ => by simp [p2]
              · exact (rel.ra.get t u (pruneT_get hu)).trans (congrArg some (SV.den_ids fun m hm => by rw [setA_other (tlow t u (pruneT_get hu) m hm)]))
              · rw [setA_same, setA_other (by omega : y.dfr ≠ s.next)]
                show (w.heap.push _)[w.heap.size]? = _
                simp [lst]
            · refine (DLow.one (by omega) fun o e m hm => ?_).app (rel.dl.mono (by omega))
              cases e
              rcases List.mem_cons.1 hm with rfl | hm
              · show y.dfr < _; omega
              · have : m < s.next := rel.tl m (pruneT_ids hm)
                omega
            · rw [List.nil_append, rel.ra.defers]
              exact List.map_congr_left fun m hm => by have := rel.ml m hm; rw [setA_other (by omega)]
          · cases hmk
      obtain ⟨α1, mark, _, hent, hα1, hsy, hmky, hdfy, hl1, hmarks⟩ := start
      have hlow1 := over_low hl1 cx.low (by have := rel.lo; omega : nx ≤ yid + 1)
      split at hr
      · exact (T.bad_some hr).elim
      rename_i fv hfv
      split at hr
      · rename_i g caps t0 htg
        split at hr
        · rename_i hcb
          split at hr
          · rename_i bmask ids hreach
            split at hr
            · rename_i hc
              have hc1 := hc
              obtain ⟨⟨v, fd, n', pc'⟩, h1, h2⟩ := T.bind_some hr
              simp only at h2
              split at h2
              · rename_i hc2
                simp only [Bool.and_eq_true, Nat.ble_eq] at hc2
                obtain ⟨⟨hn', hft⟩, hdk⟩ := hc2
                obtain ⟨DK, _⟩ := dOk_spec hdk
                split at h2
                · rename_i y hy
                  split at h2
                  · exact (T.bad_some h2).elim
                  rename_i hst
                  have hst' : y.st.beq 1 = false := by
                    cases hq : y.st.beq 1 with
                    | false => rfl
                    | true => exact absurd hq hst
                  have hny : nx ≤ yid + 1 := by have := rel.lo; omega
                  have hnn : nx ≤ n' := Nat.le_trans hny hn'
                  have hsn' : s.next ≤ n' := by omega
                  refine wpIn_rangeFunc fun fn _ => ?_
                  obtain ⟨l, w1, hrun, hl, hfn, hcaps, I1⟩ := hent fn
                  have hobs1 := inv_obs cx (fun _ q => q.1) I1
                  have hids := lowL_iff.1 hc1
                  have hsub : ∀ m, m ∈ t0 ++ (SV.one (.nm yid) :: caps).flatMap SV.ids → m ∈ ids := fun m hm => reach_sub hreach (fun j hj => by simp at hj) m (.inl hm)
                  have hargs : ∀ u ∈ (SV.one (.nm yid) :: caps), u.below (yid + 1) = true := fun u hu => lowL_iff.2 fun m hm => hids m (hsub m (List.mem_append_right _ (List.mem_flatMap.2 ⟨u, hu, hm⟩)))
                  obtain ⟨hpc', hres⟩ := call_any hcall (α := α1) (w := w1) rel.pc h1 hlow1 hobs1 (inv_below cx I1) hargs trivial
                  have ef : a.eval f = fv.den ρ α := ev_den rel.ra hfv
                  have ef1 : a.eval f = fv.den ρ α1 := ef.trans (SV.den_ids fun m hm => (hα1 m (by have := lowL_iff.1 (ev_low rel.tl hfv) m hm; omega)).symm)
                  rcases tgt_den (ρ := ρ) (α := α1) (w := w1) htg (fun id _ o ho => hobs1.at_ id o ho) with ⟨g', e1, hden⟩ | ⟨_, _, e1, _⟩
                  · cases e1
                    have hcall' : CallsIn (FW (rdB α0 rd)) 0 P g ((SV.one (.nm yid) :: caps).map (SV.den ρ α1)).toArray w1 (rangePost (FW (rdB α0 rd)) 0 P l Q { a with defers := mark ++ a.defers }) := by
                      refine callsIn_FW.2 ((hres hcb).mono ?_)
                      rintro e w3 ⟨α2, rfl, U⟩
                      have I2 : Inv ρ α0 h0 W (Rg nx n') α2 w3 (Hp.app fd (Hp.app [(yid, some (.yld ⟨nt, pruneT (readsC asg ++ readsC body) s.tm, ps.toList, asg, body, df, 0, none⟩))] (Hp.app d0 s.d))) :=
                        inv_step cx (fun _ q => q.1) I1 hny (fresh_low hlow1) U DK fun i => rg_join hny hn' i
                      have hl2 : DLow n' (Hp.app fd (Hp.app [(yid, some (.yld ⟨nt, pruneT (readsC asg ++ readsC body) s.tm, ps.toList, asg, body, df, 0, none⟩))] (Hp.app d0 s.d))) := (told_low hft).app (hl1.mono hn')
                      have hobs2 := inv_obs cx (fun _ q => q.1) I2
                      have hα2 : ∀ m, m < yid + 1 → α2 m = α1 m := fun m hm => U.al m fun q => by have := q.1; omega
                      obtain ⟨fn2, tmps2, r1, r2, r3, r4, r5⟩ := hobs2.at_ yid _ (over_some hy)
                      have hlb : l = (α2 yid).blk := by rw [hα2 yid (by omega)]; exact hl
                      obtain ⟨UD, DD⟩ := eff_obj (ρ := ρ) (n := n') (x := none) (ob := .loop { state := .exhausted, pending := y.pend, fn := fn2, tmps := tmps2, params := y.ps.toArray, assign := y.asg, body := y.body, defers := (α2 y.dfr).blk }) (over_some hy) rfl rfl rfl (fun o' q => by cases q) (fun o' q => by cases q) (α := α2) (w := w3)
                      have I3 := inv_same cx I2 hnn UD DD
                      have rel3 : Rel ρ α0 h0 W nx nt ⟨pc', s.tm, Hp.app [(yid, none)] (Hp.app fd (Hp.app [(yid, some (.yld ⟨nt, pruneT (readsC asg ++ readsC body) s.tm, ps.toList, asg, body, df, 0, none⟩))] (Hp.app d0 s.d))), n', mk⟩ α2 { a with defers := mark ++ a.defers } _ :=
                        ⟨hpc', ⟨fun t u hu => by rw [← SV.den_ids fun m hm => ((hα2 m (by have := rel.tl m (Tm.get_ids hu m hm); omega)).trans (hα1 m (rel.tl m (Tm.get_ids hu m hm)))).symm]; exact rel.ra.get t u hu, rel.ra.size, by
                          show mark ++ a.defers = _
                          rw [hmarks]
                          exact List.map_congr_left fun m hm => by rw [hα2 m (by have := hmky m hm; omega)]⟩, I3, rel.tl.mono hsn', (DLow.one (Nat.lt_of_lt_of_le (Nat.lt_succ_self yid) hn') fun o q => by cases q).app hl2, hnn, fun m hm => Nat.lt_of_lt_of_le (Nat.lt_succ_of_lt (hmky m hm)) hn'⟩
                      refine ⟨y.pend, _, by rw [hlb]; exact run_endLoop r5 (lst_busy hst'), ?_⟩
                      split at h2
                      · rename_i hp
                        have := T.ret_some h2
                        cases this
                        rw [hp] at rel3 ⊢
                        exact hQ _ _ _ rel3
                      · rename_i hp
                        have := T.ret_some h2
                        cases this
                        rw [hp] at rel3 ⊢
                        exact wpIn_ret (hQ _ _ _ rel3)
                      · rename_i j hp
                        have := T.ret_some h2
                        cases this
                        rw [hp] at rel3 ⊢
                        exact wpIn_exit (hQ _ _ _ rel3)
                      · exact (T.bad_some h2).elim
                    refine ⟨l, mark, w1, { target := .fn (.func g) (caps.map (SV.den ρ α1)).toArray, args := #[.func (.yield l) #[] #[]] }, w1, g, ((SV.one (.nm yid) :: caps).map (SV.den ρ α1)).toArray, w1, hrun, ?_, fun _ _ => trivial, ?_, fun q => (by cases q), hcall'⟩
                    · simp only [resolve, ef1, hden, Deferred.ofValue]
                      simp [Act.eval]
                    · have hcb' : callable P g = true := hcb
                      simp only [invoke]
                      have := callable_run (P := P) hcb' (#[.func (.yield l) #[] #[]] ++ (caps.map (SV.den ρ α1)).toArray) w1
                      rw [this]
                      simp [SV.den, SCl.den, hfn, hcaps]
                  · cases e1
                · exact (T.bad_some h2).elim
              · exact (T.bad_some h2).elim
            · exact (T.bad_some hr).elim
          · exact (T.bad_some hr).elim
        · exact (T.bad_some hr).elim
      · exact (T.bad_some hr).elim
    | scope _ => exact (T.bad_some hr).elim
    | goto _ => exact (T.bad_some hr).elim
    | refuse _ => exact (T.bad_some hr).elim
end
end Go.Proofs.Ytmpadjlplgajcaa
