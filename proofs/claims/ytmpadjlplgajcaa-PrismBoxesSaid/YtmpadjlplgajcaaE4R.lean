/- The executor's laws: a loop begins; a round; the last round. -/
import Derived.Test.YtmpadjlplgajcaaE4Q
namespace Go.Proofs.Ytmpadjlplgajcaa
open Go.RowKit
section
variable {ρ : EnvS} {P : Program} {W0 W : World} {α0 α α' : Nat → Pl} {h0 h : Vw} {nx nt n : Nat} {w w' : World} {d : Hp} {A : LAnn} {rd : Option Nat} {s : St}
theorem lbsb_vals2 {ρ' : EnvS} (hf : ρ'.f = ρ.f) (hg : ρ'.g = ρ.g) {i : Nat} {e e' : IE} {b : LB} (hu : b.ups = []) (hk : ∀ k : IE, (k.sb i e).den ρ = (k.sb i e').den ρ') {α α' : Nat → Pl} (m : Nat) : valsB ρ α (b.sb i e) m = valsB ρ' α' (b.sb i e') m := by
  rw [valsB_base (show (b.sb i e).ups = [] from hu), valsB_base (show (b.sb i e').ups = [] from hu)]
  refine cellsB_k hf hg ?_ rfl _ _
  show (b.k.map _).map _ = (b.k.map _).map _
  cases b.k with
  | none => rfl
  | some k => simp only [Option.map_some, hk]
theorem lbsb_vals {ρ' : EnvS} (hf : ρ'.f = ρ.f) (hg : ρ'.g = ρ.g) {i : Nat} {e : IE} {b : LB} (hu : b.ups = []) (hk : ∀ k : IE, (k.sb i e).den ρ = k.den ρ') {α α' : Nat → Pl} (m : Nat) : valsB ρ α (b.sb i e) m = valsB ρ' α' b m := by
  rw [valsB_base (show (b.sb i e).ups = [] from hu), valsB_base hu]
  refine cellsB_k hf hg ?_ rfl _ _
  show (b.k.map _).map _ = b.k.map _
  cases b.k with
  | none => rfl
  | some k => simp only [Option.map_some, hk]
/-- The loop begins. -/
theorem start_rel (cx : Cx ρ W0 α0 h0 W nx) (hS : Start A rd (s.d.over h0) s) (hpc : A.pc.Ok ρ) (hax : AxOk ρ A.ax0) {a : Act} (rel : Rel ρ α0 h0 W nx nt s α a w) :
    Rel ρ α0 h0 W nx nt (SJ A (A.sg s.tm (s.d.over h0)).tgts s 0) (alN (A.sg s.tm (s.d.over h0)) α α) a w := by
  have hobs := inv_obs cx (fun _ q => q.1) rel.inv
  have hl := maxN_l s.next A.nx
  have hr := maxN_r s.next A.nx
  generalize hg : A.sg s.tm (s.d.over h0) = g
  have htm := hS.tm; have hob := hS.ob; have hlb := eqLb_spec rel.pc hax hS.lb; have htgn := hS.tgn; have htgs := hS.tgs
  rw [hg] at htm hob hlb htgn htgs
  have hlob : ∀ m, (g.get m).isSome = true → s.next ≤ m ∧ m < A.nx := fun m hm => by
    rw [← hg] at hm
    obtain ⟨_, _, _, h1, h2⟩ := get_lobs hS hm
    exact ⟨h1, h2⟩
  have hok : ∀ m, AlOk g (alN g α α) α m := fun m => alN_ok fun _ => rfl
  -- a list's place
  have tgt : ∀ t ∈ g.tgts, ∃ b, s.d.over h0 t = some (.lst b) := fun t ht => by
    obtain ⟨m, hm⟩ := Sg.tgts_mem ht
    rw [← hg] at hm
    obtain ⟨p, hp, e⟩ := sg_lobs hm
    have e2 := sg_get hS.ndl hm
    rw [hg] at e2
    rcases hlb _ (lobsS_mem (i := A.i) (e := .lit 0) hp) with ⟨h1, _⟩ | ⟨t', b, h1, h2, _⟩
    · simp only [e] at h1; rw [e2] at h1; cases h1
    · simp only [e] at h1; rw [e2] at h1; cases h1; exact ⟨b, h2⟩
  have lobt : ∀ {p : Nat × LB}, p ∈ A.lobs → ((alN g α α) p.1).isNil = false → ∃ t b, g.get p.1 = some (some t) ∧ t ∈ g.tgts ∧ s.d.over h0 t = some (.lst b) ∧ alN g α α p.1 = α t := fun {p} hp hn => by
    have hx := hok p.1
    unfold AlOk at hx
    rcases hlb _ (lobsS_mem (i := A.i) (e := .lit 0) hp) with ⟨h1, _⟩ | ⟨t, b, h1, h2, _⟩
    · simp only at h1; rw [h1] at hx; rw [hx] at hn; cases hn
    · simp only at h1; rw [h1] at hx; exact ⟨t, b, h1, Sg.mem_tgts (Sg.get_mem h1), h2, hx⟩
  -- every object at the head, from one that stands there
  have root : ∀ id o, (Hp.app (osH (osS A.i (.lit 0) A.all)) (Hp.app (dropAll g.tgts) s.d)).get id = some (some o) → o.adr (alN g α α id) = true →
      ∃ r o1, s.d.over h0 r = some o1 ∧ o1.adr (α r) = true ∧ alN g α α id = α r ∧ ((r = id ∧ r ∉ g.tgts ∧ ((o1 = o) ∨ o1.ro = false ∧ o1.sib = [])) ∨ (r ∈ g.tgts ∧ (g.get id = some (some r)) ∧ o1.ro = false ∧ o1.sib = [])) := by
    intro id o e ha
    rcases head_get _ e with ⟨p, hp, rfl, ho⟩ | ⟨_, _, e2⟩ | ⟨h1, h2, h3⟩
    · cases ho
      rw [sbo_adr] at ha
      rcases all_mem hp with ⟨q, hq, rfl⟩ | ⟨q, hq, rfl⟩
      · obtain ⟨b, q1, _, _, q4, q5, _⟩ := hob _ (obsS_mem' (i := A.i) (e := .lit 0) hq)
        have hne : ¬ (g.get q.1).isSome = true := fun hm => by have := (hlob _ hm).1; have := (hS.obs q hq).2.1; omega
        refine ⟨q.1, .blk b, q1, rfl, alN_other hne, .inl ⟨rfl, fun hm => (htgs _ hm).2 q hq rfl, .inr ⟨q4, q5⟩⟩⟩
      · have hn : ((alN g α α) q.1).isNil = false := by simpa [Ob.adr, Ob.addr, Ob.isL] using ha
        obtain ⟨t, b, h1, h2, h3, h4⟩ := lobt hq hn
        refine ⟨t, .lst b, h3, ?_, h4, .inr ⟨h2, h1, rfl, rfl⟩⟩
        rw [← h4]
        simp [Ob.adr, Ob.addr, Ob.isL, hn]
    · cases e2
    · have hid := (rel.dl id _ h3).1
      have hne : ¬ (g.get id).isSome = true := fun hm => by have := (hlob _ hm).1; omega
      rw [alN_other hne] at ha ⊢
      exact ⟨id, o, over_some h3, ha, rfl, .inl ⟨rfl, h2, .inl rfl⟩⟩
  have hinv : Inv ρ α0 h0 W (Rg nx (maxN s.next A.nx)) (alN g α α) w (Hp.app (osH (osS A.i (.lit 0) A.all)) (Hp.app (dropAll g.tgts) s.d)) := by
    refine inv_put cx rel.inv hl (fun m => (g.get m).isSome = true) (fun i => i ∈ g.tgts) (fun m hm => ?_) (fun m hm => alN_other hm) (fun i hi => ?_) (fun i hi => ⟨?_, fun o ho => ?_⟩) (Stays.refl _ _) (fun id o e => ?_) (fun i j oi oj hne e1 e2 h1 h2 h3 h4 => ?_) (fun id x e => ?_) fun id o hL e ha => ?_
    · have := hlob m hm; have := rel.lo; omega
    · simp only [Hp.get_app]
      split
      · rfl
      · split
        · rfl
        · exact hi
    · simp only [Hp.get_app]
      split
      · rfl
      · obtain ⟨x, hx⟩ := Option.isSome_iff_exists.1 ((dropAll_some g.tgts i).2 hi)
        rw [hx]; rfl
    · obtain ⟨b, hb⟩ := tgt i hi
      rw [hb] at ho; cases ho; rfl
    · rcases head_get _ e with ⟨p, hp, rfl, ho⟩ | ⟨_, _, e2⟩ | ⟨h1, h2, h3⟩
      · cases ho
        rcases all_mem hp with ⟨q, hq, rfl⟩ | ⟨q, hq, rfl⟩
        · obtain ⟨b, q1, q2, q3, _, _, q6⟩ := hob _ (obsS_mem' (i := A.i) (e := .lit 0) hq)
          have hne : ¬ (g.get q.1).isSome = true := fun hm => by have := (hlob _ hm).1; have := (hS.obs q hq).2.1; omega
          exact blkAt_eq (b := b) (α := α) (alN_other hne).symm q2.symm q3.symm (rns_den (αn := alN g α α) (α' := α) rel.pc (fun id _ => hok id) q6).symm (hobs.at_ _ _ q1)
        · exact lb_at (p := (q.1, q.2.sb A.i (.lit 0))) (hok q.1) (hlb _ (lobsS_mem hq)) (hS.lobs q hq).2.2 fun t b ht => hobs.at_ _ _ ht
      · cases e2
      · have hl2 := rel.dl id _ h3
        have hlow : ∀ m, m < s.next → α m = alN g α α m := fun m hm => (alN_other fun q => by have := (hlob _ q).1; omega).symm
        exact obAt_congr (hobs.at_ id o (over_some h3)) (hlow id hl2.1) (fun m hm => hlow m (hl2.2 o rfl m hm)) fun _ x hx => hx
    · obtain ⟨r1, o1, a1, a2, a3, a4⟩ := root i oi e1 h1
      obtain ⟨r2, o2, b1, b2, b3, b4⟩ := root j oj e2 h3
      rw [a3, b3] at h4
      have hr : r1 ≠ r2 := by
        rintro rfl
        rcases a4 with ⟨c1, c2, _⟩ | ⟨c1, c2, _⟩ <;> rcases b4 with ⟨d1, d2, _⟩ | ⟨d1, d2, _⟩
        · exact hne (c1.symm.trans d1)
        · exact c2 d1
        · exact d2 c1
        · exact hne (Sg.tgts_inj htgn (Sg.get_mem c2) (Sg.get_mem d2))
      have special1 : o1.ro = false → o1.sib = [] → False := fun q1 q2 => by
        have := hobs.inj r1 r2 o1 o2 hr a1 b1 a2 q1 b2 h4
        rw [q2] at this; cases this
      have special2 : o2.ro = false → o2.sib = [] → False := fun q1 q2 => by
        have := hobs.inj r2 r1 o2 o1 (Ne.symm hr) b1 a1 b2 q1 a2 h4.symm
        rw [q2] at this; cases this
      rcases a4 with ⟨c1, _, c3⟩ | ⟨_, _, c3, c4⟩
      · rcases b4 with ⟨d1, _, d3⟩ | ⟨_, _, d3, d4⟩
        · rcases c3 with c3 | ⟨c3, c4⟩
          · rcases d3 with d3 | ⟨d3, d4⟩
            · subst c1; subst d1; subst c3; subst d3
              exact hobs.inj r1 r2 o1 o2 hr a1 b1 a2 h2 b2 h4
            · exact (special2 d3 d4).elim
          · exact (special1 c3 c4).elim
        · exact (special2 d3 d4).elim
      · exact (special1 c3 c4).elim
    · rcases head_get _ e with ⟨p, hp, rfl, ho⟩ | ⟨_, h2, e2⟩ | ⟨h1, h2, h3⟩
      · subst ho
        rcases all_mem hp with ⟨q, hq, rfl⟩ | ⟨q, hq, rfl⟩
        · obtain ⟨b, q1, _, _, q4, q5, _⟩ := hob _ (obsS_mem' (i := A.i) (e := .lit 0) hq)
          exact .inr (.inr ⟨.blk b, q1, rfl, q4, q5, fun o' e' => by cases e'; rfl⟩)
        · exact .inl (lb_get (p := (q.1, q.2.sb A.i (.lit 0))) (hlb _ (lobsS_mem hq)))
      · obtain ⟨b, hb⟩ := tgt id h2
        subst e2
        exact .inr (.inr ⟨.lst b, hb, rfl, rfl, rfl, fun o' e' => by cases e'⟩)
      · exact .inr (.inl h3)
    · obtain ⟨r, o1, a1, a2, a3, a4⟩ := root id o e ha
      refine .inl ⟨r, o1, ?_, a1, a2, by rw [a3]⟩
      rcases a4 with ⟨c1, c2, _⟩ | ⟨c1, _⟩
      · exfalso
        subst c1
        have hx := hok r
        unfold AlOk at hx
        obtain ⟨x, hx2⟩ := Option.isSome_iff_exists.1 hL
        -- r's name is that of a list: its root is its place
        rcases head_get _ e with ⟨p, hp, rfl, ho⟩ | ⟨_, _, e2⟩ | ⟨h1, h2, h3⟩
        · cases ho
          rcases all_mem hp with ⟨q, hq, rfl⟩ | ⟨q, hq, rfl⟩
          · have := (hlob _ hL).1; have := (hS.obs q hq).2.1; simp only at *; omega
          · have hq2 := (hS.lobs q hq).1
            have : q.1 < s.next := by
              cases hd : s.d.get q.1 with
              | some y => exact (rel.dl _ _ hd).1
              | none => rw [over_none hd] at a1; exact Nat.lt_of_lt_of_le (cx.low _ _ a1).1 rel.lo
            omega
        · cases e2
        · have := (hlob _ hL).1; have := (rel.dl _ _ h3).1; omega
      · exact c1
  refine ⟨hpc.append rel.pc, ⟨fun t u hu => ?_, rel.ra.size, ?_⟩, hinv, fun m hm => ?_, ?_, Nat.le_trans rel.lo hl, fun m hm => by cases hm⟩
  · obtain ⟨v, h1, h2⟩ := htm _ (Tm.get_mem hu)
    rw [rel.ra.get t v h1, SV.rn_den (αn := alN g α α) (α' := α) rel.pc (fun id _ => hok id) h2]
  · rw [rel.ra.defers, hS.mks]; rfl
  · have : (SJ A g.tgts s 0).tm.ids = A.tms.ids := Tm.sb_ids _
    rw [this] at hm
    have := hS.tl m hm
    show m < maxN s.next A.nx
    omega
  · have := SJ_low hS rel.dl (.lit 0)
    rw [hg] at this
    exact this
/-- The last round begins. -/
theorem last_rel (cx : Cx ρ W0 α0 h0 W nx) (hS : Start A rd (s.d.over h0) s) (hdl : DLow s.next s.d) {a : Act} (rel : Rel ρ α0 h0 W nx nt (SJ A (A.sg s.tm (s.d.over h0)).tgts s (ρ.v A.i)) α a w) :
    Rel ρ α0 h0 W nx nt ⟨A.pc ++ s.pc, A.tms, Hp.app A.objs (Hp.app (dropAll (A.tgts s.tm (s.d.over h0))) s.d), maxN s.next A.nx, []⟩ α a w := by
  have hobs := inv_obs cx (fun _ q => q.1) rel.inv
  have key : ρ.upd A.i ((IE.lit (ρ.v A.i)).den ρ) = ρ := upd_self A.i
  have hl := maxN_l s.next A.nx
  have hr := maxN_r s.next A.nx
  unfold LAnn.tgts
  generalize (A.sg s.tm (s.d.over h0)).tgts = tg at rel hobs
  rw [objs_eq]
  have hgA : ∀ id, (Hp.app (osH A.all) (Hp.app (dropAll tg) s.d)).get id = match (osH A.all).get id with | some x => some x | none => (Hp.app (dropAll tg) s.d).get id := fun id => Hp.get_app _ _ _
  -- the same objects, told otherwise
  have same : ∀ id x, (Hp.app (osH A.all) (Hp.app (dropAll tg) s.d)).get id = some x → (∃ p ∈ A.all, p.1 = id ∧ x = some p.2 ∧ (SJ A tg s (ρ.v A.i)).d.get id = some (some (p.2.sbo A.i (.lit (ρ.v A.i))))) ∨ (SJ A tg s (ρ.v A.i)).d.get id = some x := by
    intro id x e
    rw [hgA] at e
    cases hx : (osH A.all).get id with
    | some y =>
      rw [hx] at e
      cases e
      obtain ⟨p, hp, rfl, rfl⟩ := osH_get hx
      exact .inl ⟨p, hp, rfl, rfl, head_all hS _ _ hp⟩
    | none =>
      rw [hx] at e
      refine .inr ?_
      show (Hp.app (osH (osS A.i _ A.all)) _).get id = _
      rw [Hp.get_app, osS_get, hx]
      exact e
  have one : ∀ id o, (Hp.app (osH A.all) (Hp.app (dropAll tg) s.d)).get id = some (some o) → ∃ o1, (SJ A tg s (ρ.v A.i)).d.over h0 id = some o1 ∧ o1.ro = o.ro ∧ o1.sib = o.sib ∧ ∀ p : Pl, o1.adr p = o.adr p := by
    intro id o e
    rcases same id _ e with ⟨p, hp, _, h2, h3⟩ | h3
    · cases h2
      obtain ⟨_, k2, k3, _⟩ := sbo_kind (i := A.i) (e := .lit (ρ.v A.i)) (o := p.2)
      exact ⟨_, over_some h3, k2, k3, fun q => sbo_adr⟩
    · exact ⟨o, over_some h3, rfl, rfl, fun _ => rfl⟩
  have hinv : Inv ρ α0 h0 W (Rg nx (maxN s.next A.nx)) α w (Hp.app (osH A.all) (Hp.app (dropAll tg) s.d)) := by
    refine inv_put (n := maxN s.next A.nx) cx rel.inv (Nat.le_refl _) (fun _ => False) (fun _ => False) (fun _ q => q.elim) (fun _ _ => rfl) (fun i hi => ?_) (fun i q => q.elim) (Stays.refl _ _) (fun id o e => ?_) (fun i j oi oj hne e1 e2 h1 h2 h3 h4 => ?_) (fun id x e => ?_) fun _ _ q => q.elim
    · have e1 : (SJ A tg s (ρ.v A.i)).d.get i = (Hp.app (osH (osS A.i (.lit (ρ.v A.i)) A.all)) (Hp.app (dropAll tg) s.d)).get i := rfl
      rw [e1, Hp.get_app, osS_get] at hi
      rw [hgA]
      cases hx : (osH A.all).get i with
      | some y => rfl
      | none => rw [hx] at hi; exact hi
    · rcases same id _ e with ⟨p, hp, rfl, h2, h3⟩ | h3
      · cases h2
        have hb := hobs.at_ _ _ (over_some h3)
        rcases all_mem hp with ⟨q, hq, rfl⟩ | ⟨q, hq, rfl⟩
        · refine blkAt_eq (b := q.2.sb A.i (.lit (ρ.v A.i))) rfl rfl rfl ?_ hb
          have := sbs_den (ρ := ρ) (α := α) (e := .lit (ρ.v A.i)) (hS.obs q hq).2.2.2.2.2
          rw [key] at this
          exact this
        · refine lstAt_eq (ρ := ρ) (ρ' := ρ) (b := q.2.sb A.i (.lit (ρ.v A.i))) rfl rfl rfl ?_ (fun m _ => ?_) hb
          · show (q.2.n.sb A.i _).den ρ = _; rw [IE.sb_den, key]
          · exact lbsb_vals rfl rfl (hS.lobs q hq).2.2 (fun e => by rw [IE.sb_den, key]) m
      · exact hobs.at_ _ _ (over_some h3)
    · obtain ⟨o1, a1, a2, a3, a4⟩ := one i oi e1
      obtain ⟨o2, b1, b2, b3, b4⟩ := one j oj e2
      rw [← a3]
      exact hobs.inj i j o1 o2 hne a1 b1 (by rw [a4]; exact h1) (by rw [a2]; exact h2) (by rw [b4]; exact h3) h4
    · rcases same id x e with ⟨p, hp, rfl, rfl, h3⟩ | h3
      · obtain ⟨k1, k2, k3, k4⟩ := sbo_kind (i := A.i) (e := .lit (ρ.v A.i)) (o := p.2)
        obtain ⟨_, c2, c3, c4, _⟩ := all_spec hS hp
        exact .inr (.inr ⟨_, over_some h3, by rw [k1]; exact c2, by rw [k2]; exact c3, by rw [k3]; exact c4, fun o' e' => by cases e'; exact k4.symm⟩)
      · exact .inr (.inl h3)
  refine ⟨rel.pc, ⟨fun t u hu => ?_, rel.ra.size, rel.ra.defers⟩, hinv, fun m hm => ?_, ?_, rel.lo, fun m hm => by cases hm⟩
  · have h1 : (SJ A tg s (ρ.v A.i)).tm.get t = some (u.sb A.i (.lit (ρ.v A.i))) := by
      show (A.tms.sb A.i _).get t = _
      rw [Tm.sb_get, hu]; rfl
    rw [rel.ra.get t _ h1, SV.sb_den (hS.ok _ (Tm.get_mem hu)), key]
  · have := hS.tl m hm; show m < maxN s.next A.nx; omega
  · refine DLow.app (osH_low fun p hp => ?_) fun k x hk => ?_
    · obtain ⟨h1, _, _, _, h5⟩ := all_spec hS hp
      exact ⟨by show p.1 < maxN s.next A.nx; omega, fun k hk => by have := h5 k hk; show k < maxN s.next A.nx; omega⟩
    · have hk0 := hk
      rw [Hp.get_app] at hk
      cases hx : (dropAll tg).get k with
      | none =>
        rw [hx] at hk
        exact (hdl.mono hl) k x hk
      | some y =>
        by_cases hA : ((osH A.all).get k).isSome = true
        · obtain ⟨z, hz⟩ := Option.isSome_iff_exists.1 hA
          obtain ⟨p, hp, rfl, _⟩ := osH_get hz
          rw [hx] at hk
          cases hk
          have hy := dropAll_get _ _ _ hx
          subst hy
          obtain ⟨h1, _⟩ := all_spec hS hp
          exact ⟨by show p.1 < maxN s.next A.nx; omega, fun o ho => by cases ho⟩
        · have hA : (osH A.all).get k = none := by cases hq : (osH A.all).get k with | none => rfl | some z => rw [hq] at hA; exact absurd rfl hA
          have := rel.dl k x (by
            show (Hp.app (osH (osS A.i _ A.all)) _).get k = _
            rw [Hp.get_app, osS_get, hA]
            exact hk0)
          exact this
/-- What a round looks at. -/
theorem view_get {id : Nat} {o : Ob} (ho : hv (A.view h) id = some o) : (∃ p ∈ A.all, p.1 = id ∧ o = p.2) ∨ ((osH A.all).get id = none ∧ id ∈ A.cobs ∧ h id = some o) := by
  have e : hv (A.view h) id = match (osH A.all).get id with | some x => x | none => hv (pickL h A.cobs) id := by
    show (match Hp.get id (A.objs ++ pickL h A.cobs) with | some x => x | none => none) = _
    rw [Hp.get_append, objs_eq]
    cases (osH A.all).get id with
    | some x => rfl
    | none => rfl
  rw [e] at ho
  cases hx : (osH A.all).get id with
  | some x =>
    rw [hx] at ho
    obtain ⟨p, hp, e1, rfl⟩ := osH_get hx
    cases ho
    exact .inl ⟨p, hp, e1, rfl⟩
  | none =>
    rw [hx] at ho
    simp only [pickL_get] at ho
    split at ho
    · rename_i hm; exact .inr ⟨rfl, hm, ho⟩
    · cases ho
theorem backOk_spec {hR : Vw} {x : SXt} {s' : St} (hh : A.backOk hR (x, s') = true) : x = .norm ∧ s'.mks = [] ∧ (∀ p ∈ A.tms.sb A.i (.add (.at A.i) (.lit 1)), ∃ v, s'.tm.get p.1 = some v ∧ (p.2.rn (A.sg s'.tm (s'.d.over hR))).eqP s'.pc v = true) ∧
    (∀ p ∈ obsS A.i (.add (.at A.i) (.lit 1)) A.obs, ∃ b, s'.d.over hR p.1 = some (.blk b) ∧ p.2.elem = b.elem ∧ p.2.sz = b.sz ∧ b.ro = false ∧ b.sib = [] ∧ eqPL s'.pc (p.2.cs.map (SCl.rn (A.sg s'.tm (s'.d.over hR)))) b.cs = true) ∧
    (∀ p ∈ s'.d, A.nx ≤ p.1 ∨ (∃ q ∈ A.obs, q.1 = p.1) ∨ ∃ q ∈ A.lobs, q.1 = p.1) ∧ eqLb s'.pc A.ax (A.sg s'.tm (s'.d.over hR)) (lobsS A.i (.add (.at A.i) (.lit 1)) A.lobs) (s'.d.over hR) = true ∧
    ndK (A.sg s'.tm (s'.d.over hR)).tgts = true ∧ ∀ j ∈ (A.sg s'.tm (s'.d.over hR)).tgts, A.nx ≤ j ∨ ∃ q ∈ A.lobs, q.1 = j := by
  cases x with
  | norm =>
    simp only [LAnn.backOk, Bool.and_eq_true, List.isEmpty_iff] at hh
    obtain ⟨h1, h2, h3, h4, h5, h6, h7⟩ := hh
    refine ⟨rfl, h1, eqTm_spec h2, eqOb_spec h3, fun p hp => ?_, h5, h6, fun j hj => ?_⟩
    · have := List.all_eq_true.1 h4 p hp
      simp only [Bool.or_eq_true, Nat.ble_eq, List.any_eq_true] at this
      rcases this with q | ⟨q, q1, q2⟩ | ⟨q, q1, q2⟩
      · exact .inl q
      · exact .inr (.inl ⟨q, q1, Nat.eq_of_beq_eq_true q2⟩)
      · exact .inr (.inr ⟨q, q1, Nat.eq_of_beq_eq_true q2⟩)
    · have := List.all_eq_true.1 h7 j hj
      simp only [Bool.or_eq_true, Nat.ble_eq, List.any_eq_true] at this
      rcases this with q | ⟨q, q1, q2⟩
      · exact .inl q
      · exact .inr ⟨q, q1, Nat.eq_of_beq_eq_true q2⟩
  | ex j => cases hh
  | ret => cases hh
/-- **From one round to the next.** -/
theorem round_step {body : Code} {j : Int} (cx : Cx ρ W0 α0 h0 W nx) (hS : Start A rd (s.d.over h0) s) (hdl : DLow s.next s.d) (hnx : nx ≤ s.next) (hrd : ∀ l, rd = some l → ∃ y, h0 l = some (.yld y)) {pcr : PC} (hpcR : pcr.Ok (ρ.upd A.i j)) (hax : AxOk (ρ.upd A.i j) A.ax)
    (hround : ∀ {α : Nat → Pl} {a : Act} {w : World} (Q' : Exit → Act → World → Prop), Cx (ρ.upd A.i j) W0 α (hv (A.view (s.d.over h0))) w A.nx → Rel (ρ.upd A.i j) α (hv (A.view (s.d.over h0))) w A.nx nt ⟨pcr, A.tms, [], A.nx, []⟩ α a w →
      (∀ s' α' a' w', A.backOk (hv (A.view (s.d.over h0))) (.norm, s') = true → Rel (ρ.upd A.i j) α (hv (A.view (s.d.over h0))) w A.nx nt s' α' a' w' → Q' .normal a' w') → body.wpIn (FW (rdB α rd)) 0 P Q' a w)
    {a : Act} {Q : Exit → Act → World → Prop} (rel : Rel ρ α0 h0 W nx nt (SJ A (A.sg s.tm (s.d.over h0)).tgts s j) α a w) (hQ : ∀ αn a' w', Rel ρ α0 h0 W nx nt (SJ A (A.sg s.tm (s.d.over h0)).tgts s (j + 1)) αn a' w' → headIn (FW (rdB α0 rd)) 0 P body Q a' w') : headIn (FW (rdB α0 rd)) 0 P body Q a w := by
  have hobs := inv_obs cx (fun _ q => q.1) rel.inv
  have hl := maxN_l s.next A.nx
  have hr := maxN_r s.next A.nx
  have hlo : nx ≤ maxN s.next A.nx := rel.lo
  have hcob := hS.cobs
  have hlowj := SJ_low hS hdl (.lit (j + 1))
  generalize (A.sg s.tm (s.d.over h0)).tgts = tg at rel hQ hobs hcob hlowj
  have eK : rdB α rd = rdB α0 rd := by
    cases rd with
    | none => rfl
    | some l =>
      obtain ⟨y, hy⟩ := hrd l rfl
      have hl := (cx.low l _ hy).1
      show some (α l).blk = some (α0 l).blk
      rw [rel.inv.up.al l fun q => by have := q.1; omega]
  have hall : ∀ p ∈ A.all, (SJ A tg s j).d.over h0 p.1 = some (p.2.sbo A.i (.lit j)) := fun p hp => over_some (head_all hS _ _ hp)
  -- what the round looks at stands as it should
  have hview : ∀ id o, hv (A.view (s.d.over h0)) id = some o → ∃ o1, (SJ A tg s j).d.over h0 id = some o1 ∧ (o1.addr = o.addr ∧ ∀ p : Pl, o1.adr p = o.adr p) ∧ o1.ro = o.ro ∧ o1.sib = o.sib ∧ (obAt ρ α w id o1 → obAt (ρ.upd A.i j) α w id o) ∧ id < A.nx ∧ ∀ m ∈ o.ids, m < A.nx := by
    intro id o ho
    rcases view_get ho with ⟨p, hp, rfl, rfl⟩ | ⟨h1, h2, h3⟩
    · obtain ⟨q1, _, _, _, q5⟩ := all_spec hS hp
      obtain ⟨k1, k2, k3, _⟩ := sbo_kind (i := A.i) (e := .lit j) (o := p.2)
      refine ⟨_, hall p hp, ⟨k1, fun _ => sbo_adr⟩, k2, k3, fun hb => ?_, q1, q5⟩
      rcases all_mem hp with ⟨q, hq, rfl⟩ | ⟨q, hq, rfl⟩
      · exact blkAt_eq (b := q.2.sb A.i (.lit j)) rfl rfl rfl (sbs_den (ρ := ρ) (α := α) (e := .lit j) (hS.obs q hq).2.2.2.2.2) hb
      · refine lstAt_eq (ρ := ρ) (ρ' := ρ.upd A.i j) (b := q.2.sb A.i (.lit j)) rfl rfl rfl ?_ (fun m _ => ?_) hb
        · show (q.2.n.sb A.i _).den ρ = _; rw [IE.sb_den]; rfl
        · exact lbsb_vals (ρ := ρ) (ρ' := ρ.upd A.i j) rfl rfl (hS.lobs q hq).2.2 (fun e => by rw [IE.sb_den]; rfl) m
    · obtain ⟨q1, q2, q0, q3⟩ := hcob id h2
      obtain ⟨q3, q4⟩ := q3 o h3
      have e : (SJ A tg s j).d.over h0 id = s.d.over h0 id := by
        have := head_other (A := A) (s := s) (e := .lit j) (tg := tg) h1 q0
        show Hp.over (Hp.app (osH (osS A.i (.lit j) A.all)) (Hp.app (dropAll tg) s.d)) h0 id = _
        unfold Hp.over
        rw [this]
      exact ⟨o, by rw [e]; exact h3, ⟨rfl, fun _ => rfl⟩, rfl, rfl, fun hb => Ob.noI_at q4 hb, q1, q3⟩
  have cx' : Cx (ρ.upd A.i j) W0 α (hv (A.view (s.d.over h0))) w A.nx := by
    refine ⟨⟨fun id o ho => ?_, fun id o ho ha => ?_, fun i k oi ok hne hi hk h1 h2 h3 h4 => ?_⟩, inv_below cx rel.inv, fun id o ho => ?_⟩
    · obtain ⟨o1, q1, _, _, _, q5, _⟩ := hview id o ho
      exact q5 (hobs.at_ id o1 q1)
    · obtain ⟨o1, q1, q2, _⟩ := hview id o ho
      exact hobs.low id o1 q1 (by rw [q2.2]; exact ha)
    · obtain ⟨o1, q1, q2, q3, q4, _⟩ := hview i oi hi
      obtain ⟨o2, r1, r2, _⟩ := hview k ok hk
      rw [← q4]
      exact hobs.inj i k o1 o2 hne q1 r1 (by rw [q2.2]; exact h1) (by rw [q3]; exact h2) (by rw [r2.2]; exact h3) h4
    · obtain ⟨_, _, _, _, _, _, q6, q7⟩ := hview id o ho
      exact ⟨q6, q7⟩
  have relR : Rel (ρ.upd A.i j) α (hv (A.view (s.d.over h0))) w A.nx nt ⟨pcr, A.tms, [], A.nx, []⟩ α a w := by
    refine ⟨hpcR, ⟨fun t u hu => ?_, rel.ra.size, rel.ra.defers⟩, ⟨Upd.nil (Below.refl _ _), DOk.nil⟩, fun m hm => hS.tl m hm, fun k x e => by simp [Hp.get_nil] at e, Nat.le_refl _, fun m hm => by cases hm⟩
    have h1 : (SJ A tg s j).tm.get t = some (u.sb A.i (.lit j)) := by
      show (A.tms.sb A.i _).get t = _
      rw [Tm.sb_get, hu]; rfl
    rw [rel.ra.get t _ h1, SV.sb_den (hS.ok _ (Tm.get_mem hu))]
    rfl
  refine head_round ?_
  have hR := hround (Exit.then (headIn (FW (rdB α0 rd)) 0 P body Q) Q) cx' relR fun s' α' a' w' hb rel' => ?_
  · rw [eK] at hR; exact hR
  obtain ⟨_, b1, b2, b3, b4, b5, b6, b7⟩ := backOk_spec hb
  have b5 := eqLb_spec rel'.pc hax b5
  have hobs' := inv_obs cx' (fun _ q => q.1) rel'.inv
  generalize hg : A.sg s'.tm (s'.d.over (hv (A.view (s.d.over h0)))) = g at b2 b3 b5 b6 b7
  have hlob : ∀ m, (g.get m).isSome = true → s.next ≤ m ∧ m < A.nx := fun m hm => by
    rw [← hg] at hm
    obtain ⟨_, _, _, h1, h2⟩ := get_lobs hS hm
    exact ⟨h1, h2⟩
  have eα : ∀ m, m < A.nx → α' m = α m := fun m hm => rel'.inv.up.al m fun q => by have := q.1; omega
  have hok : ∀ m, m < A.nx → AlOk g (alN g α α') α' m := fun m hm => alN_ok fun _ => (eα m hm).symm
  have enext : (ρ.upd A.i j).upd A.i ((IE.add (.at A.i) (.lit 1)).den (ρ.upd A.i j)) = ρ.upd A.i ((IE.lit (j + 1)).den ρ) := by
    rw [upd_upd]
    simp only [IE.den, upd_at]
  have hsb : ∀ v : SV, v.okI A.i = true → (v.sb A.i (.add (.at A.i) (.lit 1))).den (ρ.upd A.i j) (alN g α α') = (v.sb A.i (.lit (j + 1))).den ρ (alN g α α') := fun v h1 => by
    rw [SV.sb_den h1, SV.sb_den h1, enext]
  have hsc : ∀ cs : List SCl, (∀ c ∈ cs, c.okI A.i = true) → dens (ρ.upd A.i j) (alN g α α') (cs.map (SCl.sb A.i (.add (.at A.i) (.lit 1)))) = dens ρ (alN g α α') (cs.map (SCl.sb A.i (.lit (j + 1)))) := fun cs h1 => by
    rw [sbs_den h1, sbs_den h1, enext]
  have hse : ∀ e : IE, (e.sb A.i (.add (.at A.i) (.lit 1))).den (ρ.upd A.i j) = (e.sb A.i (.lit (j + 1))).den ρ := fun e => by
    rw [IE.sb_den, IE.sb_den, enext]
  -- the blocks that the round may have written
  have hX : ∀ k, Xs (Rg A.nx s'.next) α (hv (A.view (s.d.over h0))) s'.d k → ∃ i o, (∃ p ∈ A.all, p.1 = i) ∧ (SJ A tg s j).d.over h0 i = some o ∧ o.adr (α i) = true ∧ (α i).blk = k := by
    rintro k ⟨i, o, q1, q2, q3, q4, q5, q6⟩
    obtain ⟨o1, r1, r2, _, _, _, r6, _⟩ := hview i o q3
    obtain ⟨x, hx⟩ := Option.isSome_iff_exists.1 q1
    refine ⟨i, o1, ?_, r1, by rw [r2.2]; exact q4, q6⟩
    rcases b4 _ (mem_of_get hx) with h | ⟨q, hq, e⟩ | ⟨q, hq, e⟩
    · simp only at h; omega
    · exact ⟨_, mem_obs hq, e⟩
    · exact ⟨_, mem_lobs hq, e⟩
  have hst : Stays (fun k => ∃ i o, (∃ p ∈ A.all, p.1 = i) ∧ (SJ A tg s j).d.over h0 i = some o ∧ o.adr (α i) = true ∧ (α i).blk = k) w w' := rel'.inv.up.st.mono fun k _ hk => hX k hk
  have hobsne : ∀ q ∈ A.obs, ¬ (g.get q.1).isSome = true := fun q hq hm => by have := (hlob _ hm).1; have := (hS.obs q hq).2.1; omega
  -- each object that changes: where it stands in the round's end
  have sp : ∀ p ∈ A.all, p.2.adr (alN g α α' p.1) = true → ∃ t o, s'.d.over (hv (A.view (s.d.over h0))) t = some o ∧ o.adr (α' t) = true ∧ o.ro = false ∧ o.sib = [] ∧ alN g α α' p.1 = α' t ∧ ((t = p.1 ∧ ∃ q ∈ A.obs, q.1 = p.1) ∨ (g.get p.1 = some (some t) ∧ (A.nx ≤ t ∨ ∃ q ∈ A.lobs, q.1 = t) ∧ ∃ b, o = .lst b)) := by
    intro p hp ha
    rcases all_mem hp with ⟨q, hq, rfl⟩ | ⟨q, hq, rfl⟩
    · obtain ⟨b, q1, _, _, q4, q5, _⟩ := b3 _ (obsS_mem' (i := A.i) (e := .add (.at A.i) (.lit 1)) hq)
      have e : alN g α α' q.1 = α' q.1 := (alN_other (hobsne q hq)).trans (eα _ (hS.obs q hq).1).symm
      exact ⟨q.1, .blk b, q1, rfl, q4, q5, e, .inl ⟨rfl, q, hq, rfl⟩⟩
    · have hn : ((alN g α α') q.1).isNil = false := by simpa [Ob.adr, Ob.addr, Ob.isL] using ha
      have hx := hok q.1 (hS.lobs q hq).2.1
      unfold AlOk at hx
      rcases b5 _ (lobsS_mem (i := A.i) (e := .add (.at A.i) (.lit 1)) hq) with ⟨h1, _⟩ | ⟨t, b, h1, h2, _⟩
      · simp only at h1; rw [h1] at hx; rw [hx] at hn; cases hn
      · simp only at h1
        rw [h1] at hx
        refine ⟨t, .lst b, h2, ?_, rfl, rfl, hx, .inr ⟨h1, b7 t (Sg.mem_tgts (Sg.get_mem h1)), b, rfl⟩⟩
        simp only at hx
        rw [← hx]
        simp [Ob.adr, Ob.addr, Ob.isL, hn]
  -- its block is one of those, or new
  have place : ∀ p ∈ A.all, p.2.adr (alN g α α' p.1) = true → (∃ i o, (∃ p ∈ A.all, p.1 = i) ∧ (SJ A tg s j).d.over h0 i = some o ∧ o.adr (α i) = true ∧ (α i).blk = (alN g α α' p.1).blk) ∨ w.heap.size ≤ (alN g α α' p.1).blk := by
    intro p hp ha
    obtain ⟨t, o, t1, t2, t3, t4, t5, t6⟩ := sp p hp ha
    rcases t6 with ⟨rfl, q, hq, e⟩ | ⟨_, t7, b, rfl⟩
    · refine .inl ⟨p.1, _, ⟨p, hp, rfl⟩, hall p hp, ?_, by rw [alN_other (e ▸ hobsne q hq)]⟩
      rw [sbo_adr, ← alN_other (α := α) (g := g) (α' := α') (m := p.1) (e ▸ hobsne q hq)]
      exact ha
    · rw [t5] at ⊢
      rcases t7 with t7 | ⟨q, hq, rfl⟩
      · have t8 : s'.d.get t = some (some (.lst b)) := by
          cases hd : s'.d.get t with
          | some y => rw [over_some hd] at t1; rw [t1]
          | none => rw [over_none hd] at t1; have := (cx'.low t _ t1).1; omega
        rcases rel'.inv.up.own t _ ⟨t7, (rel'.dl t _ t8).1⟩ t8 t2 with q | q
        · exact .inl (hX _ q)
        · exact .inr q
      · refine .inl ⟨q.1, _, ⟨_, mem_lobs hq, rfl⟩, hall _ (mem_lobs hq), ?_, by rw [eα _ (hS.lobs q hq).2.1]⟩
        rw [sbo_adr, ← eα _ (hS.lobs q hq).2.1]
        exact t2
  have kept : ∀ id o, (osH A.all).get id = none → id ∉ tg → s.d.get id = some (some o) → (SJ A tg s j).d.over h0 id = some o := fun id o h1 h2 h3 => over_some ((head_other h1 h2).trans h3)
  -- no block of these is that of an object that stays
  have apart : ∀ id o, (osH A.all).get id = none → id ∉ tg → s.d.get id = some (some o) → o.adr (α id) = true → ∀ k, (∃ i o, (∃ p ∈ A.all, p.1 = i) ∧ (SJ A tg s j).d.over h0 i = some o ∧ o.adr (α i) = true ∧ (α i).blk = k) → (α id).blk ≠ k := by
    rintro id o h1 h2 h3 ha k ⟨i, oi, ⟨p, hp, rfl⟩, q2, q3, rfl⟩ he
    have hoi := hall p hp
    rw [q2] at hoi
    cases hoi
    obtain ⟨_, _, c3, c4, _⟩ := all_spec hS hp
    obtain ⟨_, k2, k3, _⟩ := sbo_kind (i := A.i) (e := .lit j) (o := p.2)
    have hne : p.1 ≠ id := fun e => by have := osH_some hp; rw [e, h1] at this; cases this
    have := hobs.inj p.1 id _ o hne q2 (kept id o h1 h2 h3) q3 (by rw [k2]; exact c3) ha he.symm
    rw [k3, c4] at this
    cases this
  have hlow : ∀ m, m < s.next → alN g α α' m = α m := fun m hm => alN_other fun q => by have := (hlob _ q).1; omega
  have hinv : Inv ρ α0 h0 W (Rg nx (maxN s.next A.nx)) (alN g α α') w' (SJ A tg s (j + 1)).d := by
    refine inv_put (n := maxN s.next A.nx) cx rel.inv (Nat.le_refl _) (fun m => (g.get m).isSome = true) (fun i => ∃ p ∈ A.all, p.1 = i) (fun m hm => ?_) (fun m hm => alN_other hm) (fun i hi => ?_) (fun i hi => ?_) hst (fun id o e => ?_) (fun i k oi ok hne e1 e2 h1 h2 h3 h4 => ?_) (fun id x e => ?_) fun id o hL e ha => ?_
    · have := hlob m hm
      omega
    · have := head_keys (A := A) (s := s) (e := .lit j) (e' := .lit (j + 1)) (tg := tg) i
      exact this ▸ hi
    · obtain ⟨p, hp, rfl⟩ := hi
      refine ⟨?_, fun o ho => ?_⟩
      · show ((Hp.app (osH (osS A.i _ A.all)) _).get p.1).isSome = true
        rw [head_all hS _ _ hp]; rfl
      · rw [hall p hp] at ho
        cases ho
        rw [(sbo_kind (i := A.i) (e := .lit j) (o := p.2)).2.1]
        exact (all_spec hS hp).2.2.1
    · rcases head_get _ e with ⟨p, hp, rfl, ho⟩ | ⟨_, _, e2⟩ | ⟨h1, h2, h3⟩
      · cases ho
        rcases all_mem hp with ⟨q, hq, rfl⟩ | ⟨q, hq, rfl⟩
        · obtain ⟨b, q1, q2, q3, _, _, q6⟩ := b3 _ (obsS_mem' (i := A.i) (e := .add (.at A.i) (.lit 1)) hq)
          have hbk : blkAt (ρ.upd A.i j) α' w' q.1 b := hobs'.at_ _ _ q1
          refine blkAt_eq (b := b) (α := α') ?_ q2.symm q3.symm ?_ hbk
          · exact (eα _ (hS.obs q hq).1).trans (alN_other (hobsne q hq)).symm
          · refine Eq.trans ?_ (hsc q.2.cs (hS.obs q hq).2.2.2.2.2)
            exact (rns_den (αn := alN g α α') (α' := α') rel'.pc (fun id hid => hok id (by have hid : id ∈ idsL (q.2.cs.map (SCl.sb A.i (.add (.at A.i) (.lit 1)))) := hid; rw [sbs_ids] at hid; exact (hS.obs q hq).2.2.2.2.1 id hid)) q6).symm
        · have := lb_at (αn := alN g α α') (p := (q.1, q.2.sb A.i (.add (.at A.i) (.lit 1)))) (hok q.1 (hS.lobs q hq).2.1) (b5 _ (lobsS_mem hq)) (hS.lobs q hq).2.2 fun t b ht => hobs'.at_ _ _ ht
          exact lstAt_eq (ρ := ρ.upd A.i j) (ρ' := ρ) (b := q.2.sb A.i (.add (.at A.i) (.lit 1))) (b' := q.2.sb A.i (.lit (j + 1))) rfl rfl rfl (hse q.2.n) (fun m _ => lbsb_vals2 (ρ := ρ.upd A.i j) (ρ' := ρ) rfl rfl (hS.lobs q hq).2.2 hse m) this
      · cases e2
      · have hl2 := hdl id _ h3
        have hat0 := hobs.at_ id o (kept id o h1 h2 h3)
        refine obAt_congr hat0 (hlow id hl2.1).symm (fun m hm => (hlow m (hl2.2 o rfl m hm)).symm) fun ha x hx => ?_
        refine (hst.block _ (obAt_lt hat0 ha) fun q => ?_).trans hx
        exact apart id o h1 h2 h3 ha _ q rfl
    · have cases2 : ∀ id o, (SJ A tg s (j + 1)).d.get id = some (some o) → o.adr (alN g α α' id) = true → (∃ p ∈ A.all, p.1 = id ∧ p.2.adr (alN g α α' p.1) = true) ∨ ((osH A.all).get id = none ∧ id ∉ tg ∧ s.d.get id = some (some o) ∧ o.adr (α id) = true ∧ alN g α α' id = α id) := by
        intro id o e ha
        rcases head_get _ e with ⟨p, hp, rfl, ho⟩ | ⟨_, _, e2⟩ | ⟨q1, q2, q3⟩
        · cases ho
          rw [sbo_adr] at ha
          exact .inl ⟨p, hp, rfl, ha⟩
        · cases e2
        · have := hlow id (hdl id _ q3).1
          rw [this] at ha
          exact .inr ⟨q1, q2, q3, ha, this⟩
      have mixed : ∀ p ∈ A.all, p.2.adr (alN g α α' p.1) = true → ∀ id o, (osH A.all).get id = none → id ∉ tg → s.d.get id = some (some o) → o.adr (α id) = true → (α id).blk = (alN g α α' p.1).blk → False := by
        intro p hp ha id o q1 q2 q3 q4 q5
        rcases place p hp ha with q | q
        · exact apart id o q1 q2 q3 q4 _ q q5
        · have := obAt_lt (hobs.at_ id o (kept id o q1 q2 q3)) q4
          omega
      rcases cases2 i oi e1 h1 with ⟨p, hp, rfl, ha⟩ | ⟨c1, c2, c3, c4, c5⟩
      · rcases cases2 k ok e2 h3 with ⟨p2, hp2, rfl, ha2⟩ | ⟨d1, d2, d3, d4, d5⟩
        · exfalso
          obtain ⟨t, o, t1, t2, t3, t4, t5, t6⟩ := sp p hp ha
          obtain ⟨t', o', u1, u2, u3, u4, u5, u6⟩ := sp p2 hp2 ha2
          rw [t5, u5] at h4
          have hne2 : t ≠ t' := by
            rintro rfl
            rcases t6 with ⟨e3, q, hq, e4⟩ | ⟨e3, t7, _⟩ <;> rcases u6 with ⟨f3, q', hq', f4⟩ | ⟨f3, u7, _⟩
            · exact hne (e3.symm.trans f3)
            · rcases u7 with u7 | ⟨q', hq', f4⟩
              · have := (hS.obs q hq).1; omega
              · have := (hS.obs q hq).2.1; have := (hS.lobs q' hq').1; omega
            · rcases t7 with t7 | ⟨q, hq, e4⟩
              · have := (hS.obs q' hq').1; omega
              · have := (hS.obs q' hq').2.1; have := (hS.lobs q hq).1; omega
            · exact hne (Sg.tgts_inj b6 (Sg.get_mem e3) (Sg.get_mem f3))
          have := hobs'.inj t t' o o' hne2 t1 u1 t2 t3 u2 h4
          rw [t4] at this
          cases this
        · rw [d5] at h4
          exact (mixed p hp ha k ok d1 d2 d3 d4 h4.symm).elim
      · rcases cases2 k ok e2 h3 with ⟨p2, hp2, rfl, ha2⟩ | ⟨d1, d2, d3, d4, d5⟩
        · rw [c5] at h4
          exact (mixed p2 hp2 ha2 i oi c1 c2 c3 c4 h4).elim
        · rw [c5, d5] at h4
          exact hobs.inj i k oi ok hne (kept i oi c1 c2 c3) (kept k ok d1 d2 d3) c4 h2 d4 h4
    · rcases head_get _ e with ⟨p, hp, rfl, rfl⟩ | ⟨q1, q2, rfl⟩ | ⟨q1, q2, q3⟩
      · obtain ⟨k1, k2, k3, k4⟩ := sbo_kind (i := A.i) (e := .lit j) (o := p.2)
        obtain ⟨_, c2, c3, c4, _⟩ := all_spec hS hp
        exact .inr (.inr ⟨_, hall p hp, by rw [k1]; exact c2, by rw [k2]; exact c3, by rw [k3]; exact c4, fun o' e' => by cases e'; exact (sbo_kind (i := A.i) (e := .lit (j + 1)) (o := p.2)).2.2.2.trans k4.symm⟩)
      · exact .inr (.inl (head_tg q1 q2))
      · exact .inr (.inl ((head_other q1 q2).trans q3))
    · rcases head_get _ e with ⟨p, hp, rfl, ho⟩ | ⟨_, _, e2⟩ | ⟨q1, q2, q3⟩
      · cases ho
        rw [sbo_adr] at ha
        exact place p hp ha
      · cases e2
      · have := (hlob _ hL).1
        have := (hdl id _ q3).1
        omega
  refine hQ (alN g α α') a' w' ⟨rel.pc, ⟨fun t u hu => ?_, rel'.ra.size, by rw [rel'.ra.defers, b1]; rfl⟩, hinv, fun m hm => ?_, hlowj, rel.lo, fun m hm => by cases hm⟩
  · have hu' : (A.tms.sb A.i (.lit (j + 1))).get t = some u := hu
    rw [Tm.sb_get, Option.map_eq_some_iff] at hu'
    obtain ⟨v, hv1, rfl⟩ := hu'
    have hm : (t, v.sb A.i (.add (.at A.i) (.lit 1))) ∈ A.tms.sb A.i (.add (.at A.i) (.lit 1)) := List.mem_map.2 ⟨(t, v), Tm.get_mem hv1, rfl⟩
    obtain ⟨v', q1, q2⟩ := b2 _ hm
    rw [rel'.ra.get t v' q1, ← SV.rn_den (αn := alN g α α') (α' := α') rel'.pc (fun id hid => hok id (by rw [SV.sb_ids] at hid; exact hS.tl id (Tm.get_ids hv1 id hid))) q2, hsb v (hS.ok _ (Tm.get_mem hv1))]
  · have : (SJ A tg s (j + 1)).tm.ids = A.tms.ids := Tm.sb_ids _
    rw [this] at hm
    have := hS.tl m hm
    show m < maxN s.next A.nx
    omega
end
end Go.Proofs.Ytmpadjlplgajcaa
