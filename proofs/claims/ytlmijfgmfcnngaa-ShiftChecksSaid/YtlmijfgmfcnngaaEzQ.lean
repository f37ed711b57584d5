/- The executor's laws: from a loop's head at one round to its head at the next. -/
import Derived.Test.YtlmijfgmfcnngaaEzP
namespace Go.Proofs.Ytlmijfgmfcnngaa
open Go.RowKit
/-- The round's loop, as the fence names it. -/
def rdB (α0 : Nat → Pl) (rd : Option Nat) : Option Nat := rd.map fun id => (α0 id).blk
section
variable {ρ : EnvS} {P : Program} {W0 W : World} {α0 α α' : Nat → Pl} {h0 h : Vw} {nx nt n : Nat} {w w' : World} {d : Hp}
theorem blkAt_eq {ρ' : EnvS} {id : Nat} {b b' : Blk} (hα : α id = α' id) (he : b.elem = b'.elem) (hs : b.sz = b'.sz) (hd : dens ρ α b.cs = dens ρ' α' b'.cs) (hb : blkAt ρ α w id b) : blkAt ρ' α' w id b' := by
  obtain ⟨tl, h1, h2, h3⟩ := hb
  exact ⟨tl, by rw [← hα, ← hs]; exact h1, by rw [← hα, ← hs]; exact h2, by rw [← hα, ← he, ← hd]; exact h3⟩
theorem obsH_get : ∀ {ob : List (Nat × Blk)} {id : Nat} {x : Option Ob}, (obsH ob).get id = some x → ∃ p ∈ ob, p.1 = id ∧ x = some (.blk p.2)
  | [], id, x, hx => by simp [obsH, Hp.get_nil] at hx
  | p :: r, id, x, hx => by
    have hx : Hp.get id ((p.1, some (.blk p.2)) :: obsH r) = some x := hx
    rw [Hp.get_cons] at hx
    split at hx
    · rename_i e; cases hx; exact ⟨p, List.mem_cons_self .., e, rfl⟩
    · obtain ⟨q, h1, h2⟩ := obsH_get hx; exact ⟨q, List.mem_cons_of_mem _ h1, h2⟩
theorem obsH_some : ∀ {ob : List (Nat × Blk)} {p : Nat × Blk}, p ∈ ob → ((obsH ob).get p.1).isSome = true
  | [], _, hp => by cases hp
  | q :: r, p, hp => by
    show (Hp.get p.1 ((q.1, some (.blk q.2)) :: obsH r)).isSome = true
    rw [Hp.get_cons]
    split
    · rfl
    · rename_i hne
      rcases List.mem_cons.1 hp with e | e
      · rw [e] at hne; exact absurd rfl hne
      · exact obsH_some e
theorem obsS_get (i : Nat) (e : IE) (id : Nat) : ∀ ob : List (Nat × Blk), (obsH (obsS i e ob)).get id = match (obsH ob).get id with | some (some (.blk b)) => some (some (.blk (b.sb i e))) | x => x
  | [] => rfl
  | p :: r => by
    show Hp.get id ((p.1, some (.blk (p.2.sb i e))) :: obsH (obsS i e r)) = match Hp.get id ((p.1, some (.blk p.2)) :: obsH r) with | some (some (.blk b)) => some (some (.blk (b.sb i e))) | x => x
    rw [Hp.get_cons, Hp.get_cons]
    split
    · rfl
    · exact obsS_get i e id r
theorem obsS_isSome (i : Nat) (e : IE) (id : Nat) (ob : List (Nat × Blk)) : ((obsH (obsS i e ob)).get id).isSome = ((obsH ob).get id).isSome := by
  rw [obsS_get]
  split <;> simp_all
theorem app_app_get {ob ob' : List (Nat × Blk)} (hk : ∀ i, ((obsH ob).get i).isSome = ((obsH ob').get i).isSome) (d : Hp) (i : Nat) : (Hp.app (obsH ob') d).get i = (Hp.app (obsH ob') (Hp.app (obsH ob) d)).get i := by
  rw [Hp.get_app, Hp.get_app, Hp.get_app]
  cases h1 : (obsH ob').get i with
  | some x => rfl
  | none =>
    have := hk i
    rw [h1] at this
    cases h2 : (obsH ob).get i with
    | none => rfl
    | some y => rw [h2] at this; cases this
/-- Blocks of which every one stands as it should. -/
theorem upd_obs {B : Nat} {ob : List (Nat × Blk)} (hO : Obs ρ B α w h) (hob : ∀ p ∈ ob, p.2.ro = false ∧ p.2.sib = [] ∧ ∃ b0, h p.1 = some (.blk b0) ∧ b0.ro = false ∧ b0.sib = []) (hat : ∀ p ∈ ob, blkAt ρ α w' p.1 p.2)
    (hst : Stays (Xs (Rg n n) α h (obsH ob)) w w') : Upd (Rg n n) ρ α α h w w' (obsH ob) ∧ DOk (Rg n n) h (obsH ob) := by
  refine ⟨⟨fun _ _ => rfl, hst, fun id o e => ?_, fun id o q => absurd q (rg_none n id), fun i j oi oj hne e1 e2 h1 h2 h3 h4 => ?_⟩, fun k x e => ?_⟩
  · obtain ⟨p, hp, rfl, q⟩ := obsH_get e
    cases q
    exact hat p hp
  · obtain ⟨p, hp, rfl, q⟩ := obsH_get e1
    cases q
    obtain ⟨p', hp', rfl, q⟩ := obsH_get e2
    cases q
    obtain ⟨_, _, b0, q1, q2, q3⟩ := hob p hp
    obtain ⟨_, _, b1, r1, _, _⟩ := hob p' hp'
    have := hO.inj p.1 p'.1 (.blk b0) (.blk b1) hne q1 r1 rfl q2 rfl h4
    have e : (Ob.blk b0).sib = [] := q3
    rw [e] at this
    cases this
  · obtain ⟨p, hp, rfl, q⟩ := obsH_get e
    subst q
    obtain ⟨c1, _, b0, q1, q2, q3⟩ := hob p hp
    refine .inr ⟨.blk b0, q1, rfl, fun q => ?_, fun _ m hm => ?_⟩
    · have e : (Ob.blk b0).ro = false := q2
      rw [e] at q; cases q
    · have e : (Ob.blk b0).sib = [] := q3
      rw [e] at hm; cases hm
theorem put_obs (cx : Cx ρ W0 α0 h0 W nx) (hI : Inv ρ α0 h0 W (Rg nx n) α w d) (hn : nx ≤ n) {ob : List (Nat × Blk)} (hob : ∀ p ∈ ob, p.2.ro = false ∧ p.2.sib = [] ∧ ∃ b0, d.over h0 p.1 = some (.blk b0) ∧ b0.ro = false ∧ b0.sib = []) (hat : ∀ p ∈ ob, blkAt ρ α w' p.1 p.2)
    (hst : Stays (Xs (Rg n n) α (d.over h0) (obsH ob)) w w') {d' : Hp} (hd : ∀ i, d'.get i = (Hp.app (obsH ob) d).get i) : Inv ρ α0 h0 W (Rg nx n) α w' d' := by
  obtain ⟨U, D⟩ := upd_obs (n := n) (inv_obs cx (fun _ q => q.1) hI) hob hat hst
  have I := inv_same cx hI hn U D
  exact ⟨I.up.same hd, I.ok.same hd⟩
theorem ndK_get : ∀ {ob : List (Nat × Blk)}, ndK (ob.map (·.1)) = true → ∀ p ∈ ob, (obsH ob).get p.1 = some (some (.blk p.2))
  | [], _, _, hp => by cases hp
  | q :: r, hh, p, hp => by
    simp only [List.map_cons, ndK, Bool.and_eq_true, Bool.not_eq_true', List.any_eq_false] at hh
    show Hp.get p.1 ((q.1, some (.blk q.2)) :: obsH r) = _
    rw [Hp.get_cons]
    rcases List.mem_cons.1 hp with e | e
    · rw [e, if_pos rfl]
    · have hne : q.1 ≠ p.1 := by
        intro e2
        exact hh.1 p.1 (List.mem_map.2 ⟨p, e, rfl⟩) (by rw [e2]; exact Nat.beq_refl _)
      rw [if_neg hne]
      exact ndK_get hh.2 p e
structure Start (A : LAnn) (rd : Option Nat) (h : Vw) (s : St) : Prop where
  nd : ∀ p ∈ A.obs, (obsH A.obs).get p.1 = some (some (.blk p.2))
  mks : s.mks = []
  nx : A.nx ≤ s.next
  tm : ∀ p ∈ A.tms.sb A.i (.lit 0), ∃ v, s.tm.get p.1 = some v ∧ p.2.eqP s.pc v = true
  ob : ∀ p ∈ obsS A.i (.lit 0) A.obs, ∃ b, h p.1 = some (.blk b) ∧ p.2.elem = b.elem ∧ p.2.sz = b.sz ∧ b.ro = false ∧ b.sib = [] ∧ eqPL s.pc p.2.cs b.cs = true
  obs : ∀ p ∈ A.obs, p.1 < A.nx ∧ p.2.sib = [] ∧ p.2.ro = false ∧ (∀ m ∈ idsL p.2.cs, m < A.nx) ∧ ∀ c ∈ p.2.cs, c.okI A.i = true
  cobs : ∀ id ∈ A.cobs, id < A.nx ∧ ∀ o, h id = some o → (∀ m ∈ o.ids, m < A.nx) ∧ o.noI A.i = true
  tl : ∀ m ∈ A.tms.ids, m < A.nx
  ok : ∀ p ∈ A.tms, p.2.okI A.i = true
  rd : ∀ l, rd = some l → ∃ y, hv (A.view h) l = some (.yld y)
theorem eqTm_spec {pc : PC} {tm tm' : Tm} (hh : eqTm pc tm tm' = true) : ∀ p ∈ tm, ∃ v, tm'.get p.1 = some v ∧ p.2.eqP pc v = true := by
  intro p hp
  have := List.all_eq_true.1 hh p hp
  split at this
  · rename_i v hv; exact ⟨v, hv, this⟩
  · cases this
theorem eqOb_spec {pc : PC} {obs : List (Nat × Blk)} (hh : eqOb pc obs h = true) : ∀ p ∈ obs, ∃ b, h p.1 = some (.blk b) ∧ p.2.elem = b.elem ∧ p.2.sz = b.sz ∧ b.ro = false ∧ b.sib = [] ∧ eqPL pc p.2.cs b.cs = true := by
  intro p hp
  have := List.all_eq_true.1 hh p hp
  split at this
  · rename_i b hb
    simp only [Bool.and_eq_true, Bool.not_eq_true', List.isEmpty_iff] at this
    obtain ⟨h1, h2, h3, h4, h5⟩ := this
    exact ⟨b, hb, Nat.eq_of_beq_eq_true h1, Nat.eq_of_beq_eq_true h2, h3, h4, h5⟩
  · cases this
theorem startOk_spec {A : LAnn} {rd : Option Nat} {s : St} (hh : A.startOk rd h s = true) : Start A rd h s := by
  simp only [LAnn.startOk, Bool.and_eq_true, List.isEmpty_iff, Nat.ble_eq] at hh
  obtain ⟨h0, h1, h2, h3, h4, h5, h6, h7, h8, h9⟩ := hh
  refine ⟨ndK_get h0, h1, h2, eqTm_spec h3, eqOb_spec h4, fun p hp => ?_, fun id hid => ?_, lowL_iff.1 h7, List.all_eq_true.1 h8, fun l hl => ?_⟩
  · have := List.all_eq_true.1 h5 p hp
    simp only [Bool.and_eq_true, Bool.not_eq_true', List.isEmpty_iff, Nat.blt_eq] at this
    obtain ⟨q1, q2, q3, q4, q5⟩ := this
    exact ⟨q1, q2, q3, lowL_iff.1 q4, List.all_eq_true.1 q5⟩
  · have := List.all_eq_true.1 h6 id hid
    simp only [Bool.and_eq_true, Nat.blt_eq] at this
    refine ⟨this.1, fun o ho => ?_⟩
    have q := this.2
    rw [ho] at q
    simp only [Bool.and_eq_true] at q
    exact ⟨lowL_iff.1 q.1, q.2⟩
  · subst hl
    simp only at h9
    split at h9
    · rename_i y hy; exact ⟨y, hy⟩
    · cases h9
/-- The loop's head at round j. -/
noncomputable def SJ (A : LAnn) (s : St) (j : Int) : St := ⟨A.pc ++ s.pc, A.tms.sb A.i (.lit j), Hp.app (obsH (obsS A.i (.lit j) A.obs)) s.d, s.next, []⟩
theorem PC.Ok.append {a b : PC} (ha : a.Ok ρ) (hb : b.Ok ρ) : PC.Ok ρ (a ++ b) := by
  intro c v hm
  rcases List.mem_append.1 hm with h | h
  · exact ha c v h
  · exact hb c v h
theorem obsS_mem {i : Nat} {e : IE} {ob : List (Nat × Blk)} {p : Nat × Blk} (hp : p ∈ obsS i e ob) : ∃ q ∈ ob, p = (q.1, q.2.sb i e) := by
  obtain ⟨q, h1, h2⟩ := List.mem_map.1 hp
  exact ⟨q, h1, h2.symm⟩
theorem obsH_low {ob : List (Nat × Blk)} {m : Nat} (hh : ∀ p ∈ ob, p.1 < m ∧ p.2.sib = [] ∧ ∀ k ∈ idsL p.2.cs, k < m) : DLow m (obsH ob) := by
  intro k x hk
  obtain ⟨p, hp, rfl, rfl⟩ := obsH_get hk
  obtain ⟨h1, h2, h3⟩ := hh p hp
  refine ⟨h1, fun o ho m hm => ?_⟩
  cases ho
  simp only [Ob.ids, h2, List.append_nil] at hm
  exact h3 m hm
theorem obsS_low {A : LAnn} {rd : Option Nat} {s : St} (hS : Start A rd h s) (e : IE) : DLow s.next (obsH (obsS A.i e A.obs)) := by
  refine obsH_low fun p hp => ?_
  obtain ⟨q, hq, rfl⟩ := obsS_mem hp
  obtain ⟨h1, h2, _, h4, _⟩ := hS.obs q hq
  have := hS.nx
  refine ⟨by simp only; omega, h2, fun k hk => ?_⟩
  have : idsL (q.2.sb A.i e).cs = idsL q.2.cs := sbs_ids _
  rw [this] at hk
  have := h4 k hk
  omega
/-- The loop begins. -/
theorem start_rel {A : LAnn} {rd : Option Nat} {s : St} (cx : Cx ρ W0 α0 h0 W nx) (hS : Start A rd (s.d.over h0) s) (hpc : A.pc.Ok ρ) {a : Act} (rel : Rel ρ α0 h0 W nx nt s α a w) : Rel ρ α0 h0 W nx nt (SJ A s 0) α a w := by
  have hobs := inv_obs cx (fun _ q => q.1) rel.inv
  refine ⟨hpc.append rel.pc, ⟨fun t u hu => ?_, rel.ra.size, ?_⟩, ?_, fun m hm => ?_, (obsS_low hS _).app rel.dl, rel.lo, fun m hm => by cases hm⟩
  · obtain ⟨v, h1, h2⟩ := hS.tm _ (Tm.get_mem hu)
    rw [rel.ra.get t v h1, (SV.eqP_den (α := α) rel.pc h2).1]
  · rw [rel.ra.defers, hS.mks]; rfl
  · refine put_obs cx rel.inv rel.lo (fun p hp => ?_) (fun p hp => ?_) (Stays.refl _ _) (fun _ => rfl)
    · obtain ⟨b, q1, _, _, q4, q5, _⟩ := hS.ob p hp
      obtain ⟨q, hq, rfl⟩ := obsS_mem hp
      obtain ⟨_, r2, r3, _⟩ := hS.obs q hq
      exact ⟨r3, r2, b, q1, q4, q5⟩
    · obtain ⟨b, q1, q2, q3, _, _, q6⟩ := hS.ob p hp
      exact blkAt_eq rfl q2.symm q3.symm (eqPL_den (α := α) rel.pc q6).1.symm (hobs.at_ _ _ q1)
  · have : (SJ A s 0).tm.ids = A.tms.ids := Tm.sb_ids _
    rw [this] at hm
    have := hS.tl m hm
    have := hS.nx
    show m < s.next
    omega
theorem SJ_view {A : LAnn} {rd : Option Nat} {s : St} (hS : Start A rd (s.d.over h0) s) (j : Int) {p : Nat × Blk} (hp : p ∈ A.obs) : (SJ A s j).d.over h0 p.1 = some (.blk (p.2.sb A.i (.lit j))) := by
  refine over_some ?_
  show (Hp.app (obsH (obsS A.i _ A.obs)) s.d).get p.1 = _
  rw [Hp.get_app, obsS_get, hS.nd p hp]
theorem SJ_other {A : LAnn} {s : St} (j : Int) {id : Nat} (hid : (obsH A.obs).get id = none) : (SJ A s j).d.over h0 id = s.d.over h0 id := by
  have e : (Hp.app (obsH (obsS A.i (.lit j) A.obs)) s.d).get id = s.d.get id := by rw [Hp.get_app, obsS_get, hid]
  show Hp.over (Hp.app (obsH (obsS A.i (.lit j) A.obs)) s.d) h0 id = _
  unfold Hp.over
  rw [e]
/-- The last round begins. -/
theorem last_rel {A : LAnn} {rd : Option Nat} {s : St} (cx : Cx ρ W0 α0 h0 W nx) (hS : Start A rd (s.d.over h0) s) (hdl : DLow s.next s.d) {a : Act} (rel : Rel ρ α0 h0 W nx nt (SJ A s (ρ.v A.i)) α a w) : Rel ρ α0 h0 W nx nt ⟨A.pc ++ s.pc, A.tms, Hp.app (obsH A.obs) s.d, s.next, []⟩ α a w := by
  have hobs := inv_obs cx (fun _ q => q.1) rel.inv
  have key : ρ.upd A.i ((IE.lit (ρ.v A.i)).den ρ) = ρ := upd_self A.i
  have hnx := hS.nx
  refine ⟨rel.pc, ⟨fun t u hu => ?_, rel.ra.size, rel.ra.defers⟩, ?_, fun m hm => ?_, (obsH_low fun p hp => ?_).app hdl, rel.lo, fun m hm => by cases hm⟩
  · have h1 : (SJ A s (ρ.v A.i)).tm.get t = some (u.sb A.i (.lit (ρ.v A.i))) := by
      show (A.tms.sb A.i _).get t = _
      rw [Tm.sb_get, hu]; rfl
    rw [rel.ra.get t _ h1, SV.sb_den (hS.ok _ (Tm.get_mem hu)), key]
  · refine put_obs (ob := A.obs) cx rel.inv rel.lo (fun p hp => ?_) (fun p hp => ?_) (Stays.refl _ _) (fun i => app_app_get (ob := obsS A.i (.lit (ρ.v A.i)) A.obs) (fun i => obsS_isSome _ _ _ _) s.d i)
    · obtain ⟨_, r2, r3, _⟩ := hS.obs p hp
      exact ⟨r3, r2, _, SJ_view hS _ hp, r3, r2⟩
    · have hb : blkAt ρ α w p.1 (p.2.sb A.i (.lit (ρ.v A.i))) := hobs.at_ _ _ (SJ_view hS _ hp)
      refine blkAt_eq (b := p.2.sb A.i (.lit (ρ.v A.i))) rfl rfl rfl ?_ hb
      have := sbs_den (ρ := ρ) (α := α) (e := .lit (ρ.v A.i)) (hS.obs p hp).2.2.2.2
      rw [key] at this
      exact this
  · have := hS.tl m hm; show m < s.next; omega
  · obtain ⟨h1, h2, _, h4, _⟩ := hS.obs p hp
    exact ⟨by show p.1 < s.next; omega, h2, fun k hk => by have := h4 k hk; show k < s.next; omega⟩
/-- What a round looks at. -/
theorem view_get {A : LAnn} {id : Nat} {o : Ob} (ho : hv (A.view h) id = some o) : (∃ p ∈ A.obs, p.1 = id ∧ o = .blk p.2) ∨ ((obsH A.obs).get id = none ∧ id ∈ A.cobs ∧ h id = some o) := by
  have e : hv (A.view h) id = match (obsH A.obs).get id with | some x => x | none => hv (pickL h A.cobs) id := by
    show (match Hp.get id (obsH A.obs ++ pickL h A.cobs) with | some x => x | none => none) = _
    rw [Hp.get_append]
    cases (obsH A.obs).get id with
    | some x => rfl
    | none => rfl
  rw [e] at ho
  cases hx : (obsH A.obs).get id with
  | some x =>
    rw [hx] at ho
    obtain ⟨p, hp, e1, rfl⟩ := obsH_get hx
    cases ho
    exact .inl ⟨p, hp, e1, rfl⟩
  | none =>
    rw [hx] at ho
    simp only [pickL_get] at ho
    split at ho
    · rename_i hm; exact .inr ⟨rfl, hm, ho⟩
    · cases ho
theorem backOk_spec {A : LAnn} {hR : Vw} {x : SXt} {s' : St} (hh : A.backOk hR (x, s') = true) : x = .norm ∧ s'.mks = [] ∧ (∀ p ∈ A.tms.sb A.i (.add (.at A.i) (.lit 1)), ∃ v, s'.tm.get p.1 = some v ∧ p.2.eqP s'.pc v = true) ∧
    (∀ p ∈ obsS A.i (.add (.at A.i) (.lit 1)) A.obs, ∃ b, s'.d.over hR p.1 = some (.blk b) ∧ p.2.elem = b.elem ∧ p.2.sz = b.sz ∧ b.ro = false ∧ b.sib = [] ∧ eqPL s'.pc p.2.cs b.cs = true) ∧
    ∀ p ∈ s'.d, A.nx ≤ p.1 ∨ ∃ q ∈ A.obs, q.1 = p.1 := by
  cases x with
  | norm =>
    simp only [LAnn.backOk, Bool.and_eq_true, List.isEmpty_iff] at hh
    obtain ⟨h1, h2, h3, h4⟩ := hh
    refine ⟨rfl, h1, eqTm_spec h2, eqOb_spec h3, fun p hp => ?_⟩
    have := List.all_eq_true.1 h4 p hp
    simp only [Bool.or_eq_true, Nat.ble_eq, List.any_eq_true] at this
    rcases this with q | ⟨q, q1, q2⟩
    · exact .inl q
    · exact .inr ⟨q, q1, Nat.eq_of_beq_eq_true q2⟩
  | ex j => cases hh
  | ret => cases hh
/-- **From one round to the next.** -/
theorem round_step {A : LAnn} {s : St} {rd : Option Nat} {body : Code} {j : Int} (cx : Cx ρ W0 α0 h0 W nx) (hS : Start A rd (s.d.over h0) s) (hdl : DLow s.next s.d) (hrd : ∀ l, rd = some l → ∃ y, h0 l = some (.yld y)) {pcr : PC} (hpcR : pcr.Ok (ρ.upd A.i j))
    (hround : ∀ {α : Nat → Pl} {a : Act} {w : World} (Q' : Exit → Act → World → Prop), Cx (ρ.upd A.i j) W0 α (hv (A.view (s.d.over h0))) w A.nx → Rel (ρ.upd A.i j) α (hv (A.view (s.d.over h0))) w A.nx nt ⟨pcr, A.tms, [], A.nx, []⟩ α a w →
      (∀ s' α' a' w', A.backOk (hv (A.view (s.d.over h0))) (.norm, s') = true → Rel (ρ.upd A.i j) α (hv (A.view (s.d.over h0))) w A.nx nt s' α' a' w' → Q' .normal a' w') → body.wpIn (FW (rdB α rd)) 0 P Q' a w)
    {a : Act} {Q : Exit → Act → World → Prop} (rel : Rel ρ α0 h0 W nx nt (SJ A s j) α a w) (hQ : ∀ a' w', Rel ρ α0 h0 W nx nt (SJ A s (j + 1)) α a' w' → headIn (FW (rdB α0 rd)) 0 P body Q a' w') : headIn (FW (rdB α0 rd)) 0 P body Q a w := by
  have hobs := inv_obs cx (fun _ q => q.1) rel.inv
  have hnx := hS.nx
  have hlo := rel.lo
  have eK : rdB α rd = rdB α0 rd := by
    cases rd with
    | none => rfl
    | some l =>
      obtain ⟨y, hy⟩ := hrd l rfl
      have hl := (cx.low l _ hy).1
      show some (α l).blk = some (α0 l).blk
      rw [rel.inv.up.al l fun q => by have := q.1; omega]
  -- what the round looks at stands as it should
  have hview : ∀ id o, hv (A.view (s.d.over h0)) id = some o → ∃ o1, (SJ A s j).d.over h0 id = some o1 ∧ o1.addr = o.addr ∧ o1.ro = o.ro ∧ o1.sib = o.sib ∧ (obAt ρ α w id o1 → obAt (ρ.upd A.i j) α w id o) ∧ id < A.nx ∧ ∀ m ∈ o.ids, m < A.nx := by
    intro id o ho
    rcases view_get ho with ⟨p, hp, rfl, rfl⟩ | ⟨h1, h2, h3⟩
    · obtain ⟨q1, q2, q3, q4, q5⟩ := hS.obs p hp
      refine ⟨_, SJ_view hS j hp, rfl, rfl, rfl, fun hb => blkAt_eq (b := p.2.sb A.i (.lit j)) rfl rfl rfl ?_ hb, q1, fun m hm => ?_⟩
      · exact sbs_den (ρ := ρ) (α := α) (e := .lit j) q5
      · simp only [Ob.ids, q2, List.append_nil] at hm; exact q4 m hm
    · obtain ⟨q1, q2⟩ := hS.cobs id h2
      obtain ⟨q3, q4⟩ := q2 o h3
      exact ⟨o, by rw [SJ_other j h1]; exact h3, rfl, rfl, rfl, fun hb => Ob.noI_at q4 hb, q1, q3⟩
  have cx' : Cx (ρ.upd A.i j) W0 α (hv (A.view (s.d.over h0))) w A.nx := by
    refine ⟨⟨fun id o ho => ?_, fun id o ho ha => ?_, fun i k oi ok hne hi hk h1 h2 h3 h4 => ?_⟩, inv_below cx rel.inv, fun id o ho => ?_⟩
    · obtain ⟨o1, q1, _, _, _, q5, _⟩ := hview id o ho
      exact q5 (hobs.at_ id o1 q1)
    · obtain ⟨o1, q1, q2, _⟩ := hview id o ho
      exact hobs.low id o1 q1 (by rw [q2]; exact ha)
    · obtain ⟨o1, q1, q2, q3, q4, _⟩ := hview i oi hi
      obtain ⟨o2, r1, r2, _⟩ := hview k ok hk
      rw [← q4]
      exact hobs.inj i k o1 o2 hne q1 r1 (by rw [q2]; exact h1) (by rw [q3]; exact h2) (by rw [r2]; exact h3) h4
    · obtain ⟨_, _, _, _, _, _, q6, q7⟩ := hview id o ho
      exact ⟨q6, q7⟩
  have relR : Rel (ρ.upd A.i j) α (hv (A.view (s.d.over h0))) w A.nx nt ⟨pcr, A.tms, [], A.nx, []⟩ α a w := by
    refine ⟨hpcR, ⟨fun t u hu => ?_, rel.ra.size, rel.ra.defers⟩, ⟨Upd.nil (Below.refl _ _), DOk.nil⟩, fun m hm => hS.tl m hm, fun k x e => by simp [Hp.get_nil] at e, Nat.le_refl _, fun m hm => by cases hm⟩
    have h1 : (SJ A s j).tm.get t = some (u.sb A.i (.lit j)) := by
      show (A.tms.sb A.i _).get t = _
      rw [Tm.sb_get, hu]; rfl
    rw [rel.ra.get t _ h1, SV.sb_den (hS.ok _ (Tm.get_mem hu))]
    rfl
  refine head_round ?_
  have hR := hround (Exit.then (headIn (FW (rdB α0 rd)) 0 P body Q) Q) cx' relR fun s' α' a' w' hb rel' => ?_
  · rw [eK] at hR; exact hR
  obtain ⟨_, b1, b2, b3, b4⟩ := backOk_spec hb
  have hobs' := inv_obs cx' (fun _ q => q.1) rel'.inv
  have eα : ∀ m, m < A.nx → α' m = α m := fun m hm => rel'.inv.up.al m fun q => by have := q.1; omega
  have enext : (ρ.upd A.i j).upd A.i ((IE.add (.at A.i) (.lit 1)).den (ρ.upd A.i j)) = ρ.upd A.i ((IE.lit (j + 1)).den ρ) := by
    rw [upd_upd]
    simp only [IE.den, upd_at]
  have hsb : ∀ v : SV, v.okI A.i = true → (∀ m ∈ v.ids, m < A.nx) → (v.sb A.i (.add (.at A.i) (.lit 1))).den (ρ.upd A.i j) α' = (v.sb A.i (.lit (j + 1))).den ρ α := fun v h1 h2 => by
    rw [SV.sb_den h1, SV.sb_den h1, enext]
    exact SV.den_ids fun m hm => eα m (h2 m hm)
  have hsc : ∀ cs : List SCl, (∀ c ∈ cs, c.okI A.i = true) → (∀ m ∈ idsL cs, m < A.nx) → dens (ρ.upd A.i j) α' (cs.map (SCl.sb A.i (.add (.at A.i) (.lit 1)))) = dens ρ α (cs.map (SCl.sb A.i (.lit (j + 1)))) := fun cs h1 h2 => by
    rw [sbs_den h1, sbs_den h1, enext]
    exact dens_ids fun m hm => eα m (h2 m hm)
  refine hQ a' w' ⟨rel.pc, ⟨fun t u hu => ?_, rel'.ra.size, by rw [rel'.ra.defers, b1]; rfl⟩, ?_, fun m hm => ?_, (obsS_low hS _).app hdl, rel.lo, fun m hm => by cases hm⟩
  · have hu' : (A.tms.sb A.i (.lit (j + 1))).get t = some u := hu
    rw [Tm.sb_get, Option.map_eq_some_iff] at hu'
    obtain ⟨v, hv1, rfl⟩ := hu'
    have hm : (t, v.sb A.i (.add (.at A.i) (.lit 1))) ∈ A.tms.sb A.i (.add (.at A.i) (.lit 1)) := List.mem_map.2 ⟨(t, v), Tm.get_mem hv1, rfl⟩
    obtain ⟨v', q1, q2⟩ := b2 _ hm
    rw [rel'.ra.get t v' q1, ← (SV.eqP_den (α := α') rel'.pc q2).1, hsb v (hS.ok _ (Tm.get_mem hv1)) fun m hm => hS.tl m (Tm.get_ids hv1 m hm)]
  · refine put_obs (ob := obsS A.i (.lit (j + 1)) A.obs) cx rel.inv rel.lo (fun p hp => ?_) (fun p hp => ?_) (rel'.inv.up.st.mono fun k _ hk => ?_) (fun i => app_app_get (ob := obsS A.i (.lit j) A.obs) (fun i => by rw [obsS_isSome, obsS_isSome]) s.d i)
    · obtain ⟨p0, hp0, rfl⟩ := obsS_mem hp
      obtain ⟨_, q2, q3, _⟩ := hS.obs p0 hp0
      have hv1 := SJ_view hS j hp0
      exact ⟨q3, q2, _, hv1, q3, q2⟩
    · obtain ⟨p0, hp0, rfl⟩ := obsS_mem hp
      obtain ⟨r1, _, _, r4, r5⟩ := hS.obs p0 hp0
      obtain ⟨b, q1, q2, q3, _, _, q6⟩ := b3 (p0.1, p0.2.sb A.i (.add (.at A.i) (.lit 1))) (List.mem_map.2 ⟨p0, hp0, rfl⟩)
      have hb : blkAt (ρ.upd A.i j) α' w' p0.1 b := hobs'.at_ _ _ q1
      refine blkAt_eq (eα _ r1) q2.symm q3.symm ?_ hb
      exact ((eqPL_den (α := α') rel'.pc q6).1.symm).trans (hsc p0.2.cs r5 r4)
    · obtain ⟨i, o, q1, q2, q3, q4, q5, q6⟩ := hk
      obtain ⟨o1, r1, r2, r3, _, _, r6, _⟩ := hview i o q3
      obtain ⟨x, hx⟩ := Option.isSome_iff_exists.1 q1
      refine ⟨i, o1, ?_, rg_none _ i, r1, by rw [r2]; exact q4, by rw [r3]; exact q5, q6⟩
      rw [obsS_isSome]
      rcases b4 _ (mem_of_get hx) with h | ⟨q, hq, e⟩
      · simp only at h; omega
      · have e : q.1 = i := e
        rw [← e]; exact obsH_some hq
  · have : (SJ A s (j + 1)).tm.ids = A.tms.ids := Tm.sb_ids _
    rw [this] at hm
    have := hS.tl m hm
    show m < s.next
    omega
end
end Go.Proofs.Ytlmijfgmfcnngaa
