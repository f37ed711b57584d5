/- The executor's laws: from a loop's head at one round to its head at the next; lists that grow. -/
import Derived.Test.YtmpadjlplgajcaaE4P
namespace Go.Proofs.Ytmpadjlplgajcaa
open Go.RowKit
/-- The round's loop, as the fence names it. -/
def rdB (α0 : Nat → Pl) (rd : Option Nat) : Option Nat := rd.map fun id => (α0 id).blk
/-- Objects by name. -/
def osH (l : List (Nat × Ob)) : Hp := l.map fun p => (p.1, some p.2)
def Ob.sbo (i : Nat) (e : IE) : Ob → Ob
  | .blk b => .blk (b.sb i e)
  | .lst b => .lst (b.sb i e)
  | o => o
def osS (i : Nat) (e : IE) (l : List (Nat × Ob)) : List (Nat × Ob) := l.map fun p => (p.1, p.2.sbo i e)
def LAnn.all (A : LAnn) : List (Nat × Ob) := A.obs.map (fun p => (p.1, .blk p.2)) ++ A.lobs.map fun p => (p.1, .lst p.2)
/-- The names' blocks, with the lists' names anew. -/
def alN (g : Sg) (α α' : Nat → Pl) : Nat → Pl := fun m => match g.get m with
  | none => α m
  | some none => nilPl
  | some (some t) => α' t
section
variable {ρ : EnvS} {P : Program} {W0 W : World} {α0 α α' : Nat → Pl} {h0 h : Vw} {nx nt n : Nat} {w w' : World} {d : Hp}
theorem blkAt_eq {ρ' : EnvS} {id : Nat} {b b' : Blk} (hα : α id = α' id) (he : b.elem = b'.elem) (hs : b.sz = b'.sz) (hd : dens ρ α b.cs = dens ρ' α' b'.cs) (hb : blkAt ρ α w id b) : blkAt ρ' α' w id b' := by
  obtain ⟨tl, h1, h2, h3⟩ := hb
  exact ⟨tl, by rw [← hα, ← hs]; exact h1, by rw [← hα, ← hs]; exact h2, by rw [← hα, ← he, ← hd]; exact h3⟩
theorem osH_get : ∀ {ob : List (Nat × Ob)} {id : Nat} {x : Option Ob}, (osH ob).get id = some x → ∃ p ∈ ob, p.1 = id ∧ x = some p.2
  | [], id, x, hx => by simp [osH, Hp.get_nil] at hx
  | p :: r, id, x, hx => by
    have hx : Hp.get id ((p.1, some p.2) :: osH r) = some x := hx
    rw [Hp.get_cons] at hx
    split at hx
    · rename_i e; cases hx; exact ⟨p, List.mem_cons_self .., e, rfl⟩
    · obtain ⟨q, h1, h2⟩ := osH_get hx; exact ⟨q, List.mem_cons_of_mem _ h1, h2⟩
theorem osH_some : ∀ {ob : List (Nat × Ob)} {p : Nat × Ob}, p ∈ ob → ((osH ob).get p.1).isSome = true
  | [], _, hp => by cases hp
  | q :: r, p, hp => by
    show (Hp.get p.1 ((q.1, some q.2) :: osH r)).isSome = true
    rw [Hp.get_cons]
    split
    · rfl
    · rename_i hne
      rcases List.mem_cons.1 hp with e | e
      · rw [e] at hne; exact absurd rfl hne
      · exact osH_some e
theorem ndK_osH : ∀ {ob : List (Nat × Ob)}, ndK (ob.map (·.1)) = true → ∀ p ∈ ob, (osH ob).get p.1 = some (some p.2)
  | [], _, _, hp => by cases hp
  | q :: r, hh, p, hp => by
    simp only [List.map_cons, ndK, Bool.and_eq_true, Bool.not_eq_true', List.any_eq_false] at hh
    show Hp.get p.1 ((q.1, some q.2) :: osH r) = _
    rw [Hp.get_cons]
    rcases List.mem_cons.1 hp with e | e
    · rw [e, if_pos rfl]
    · have hne : q.1 ≠ p.1 := by
        intro e2
        exact hh.1 p.1 (List.mem_map.2 ⟨p, e, rfl⟩) (by rw [e2]; exact Nat.beq_refl _)
      rw [if_neg hne]
      exact ndK_osH hh.2 p e
theorem osS_get (i : Nat) (e : IE) (id : Nat) : ∀ ob : List (Nat × Ob), (osH (osS i e ob)).get id = ((osH ob).get id).map (Option.map (Ob.sbo i e))
  | [] => rfl
  | p :: r => by
    show Hp.get id ((p.1, some (p.2.sbo i e)) :: osH (osS i e r)) = (Hp.get id ((p.1, some p.2) :: osH r)).map _
    rw [Hp.get_cons, Hp.get_cons]
    split
    · rfl
    · exact osS_get i e id r
theorem osS_isSome (i : Nat) (e : IE) (id : Nat) (ob : List (Nat × Ob)) : ((osH (osS i e ob)).get id).isSome = ((osH ob).get id).isSome := by
  rw [osS_get, Option.isSome_map]
theorem osS_mem {i : Nat} {e : IE} {ob : List (Nat × Ob)} {p : Nat × Ob} (hp : p ∈ osS i e ob) : ∃ q ∈ ob, p = (q.1, q.2.sbo i e) := by
  obtain ⟨q, h1, h2⟩ := List.mem_map.1 hp
  exact ⟨q, h1, h2.symm⟩
theorem objs_eq (A : LAnn) : A.objs = osH A.all := by
  unfold LAnn.objs LAnn.all osH obsH lobsH
  rw [List.map_append, List.map_map, List.map_map]
  rfl
theorem all_mem {A : LAnn} {p : Nat × Ob} (hp : p ∈ A.all) : (∃ q ∈ A.obs, p = (q.1, .blk q.2)) ∨ ∃ q ∈ A.lobs, p = (q.1, .lst q.2) := by
  rcases List.mem_append.1 hp with h | h
  · obtain ⟨q, h1, h2⟩ := List.mem_map.1 h; exact .inl ⟨q, h1, h2.symm⟩
  · obtain ⟨q, h1, h2⟩ := List.mem_map.1 h; exact .inr ⟨q, h1, h2.symm⟩
theorem mem_obs {A : LAnn} {q : Nat × Blk} (hq : q ∈ A.obs) : (q.1, Ob.blk q.2) ∈ A.all := List.mem_append_left _ (List.mem_map.2 ⟨q, hq, rfl⟩)
theorem mem_lobs {A : LAnn} {q : Nat × LB} (hq : q ∈ A.lobs) : (q.1, Ob.lst q.2) ∈ A.all := List.mem_append_right _ (List.mem_map.2 ⟨q, hq, rfl⟩)
theorem dropAll_some (l : List Nat) (id : Nat) : ((dropAll l).get id).isSome = true ↔ id ∈ l := by
  induction l with
  | nil => simp [dropAll, Hp.get_nil]
  | cons j l ih =>
    simp only [dropAll, Hp.get_cons]
    split
    · rename_i e; subst e; simp
    · rename_i e; rw [ih]; simp [Ne.symm e]
/-! The names that stand for lists. -/
theorem Sg.get_mem {m : Nat} {x : Option Nat} : ∀ {g : Sg}, g.get m = some x → (m, x) ∈ g
  | [], hx => by cases hx
  | p :: r, hx => by
    simp only [Sg.get] at hx
    cases hq : p.1.beq m with
    | true =>
      rw [hq] at hx
      cases hx
      rw [← Nat.eq_of_beq_eq_true hq]
      exact List.mem_cons_self ..
    | false => rw [hq] at hx; exact List.mem_cons_of_mem _ (Sg.get_mem hx)
theorem Sg.mem_tgts {m t : Nat} : ∀ {g : Sg}, (m, some t) ∈ g → t ∈ g.tgts
  | [], hx => by cases hx
  | (a, some b) :: r, hx => by
    rcases List.mem_cons.1 hx with e | e
    · cases e; exact List.mem_cons_self ..
    · exact List.mem_cons_of_mem _ (Sg.mem_tgts e)
  | (a, none) :: r, hx => by
    rcases List.mem_cons.1 hx with e | e
    · cases e
    · exact Sg.mem_tgts (g := r) e
theorem Sg.tgts_mem {t : Nat} : ∀ {g : Sg}, t ∈ g.tgts → ∃ m, (m, some t) ∈ g
  | [], hx => by cases hx
  | (a, some b) :: r, hx => by
    rcases List.mem_cons.1 hx with e | e
    · subst e; exact ⟨a, List.mem_cons_self ..⟩
    · obtain ⟨m, hm⟩ := Sg.tgts_mem (g := r) e; exact ⟨m, List.mem_cons_of_mem _ hm⟩
  | (a, none) :: r, hx => by
    obtain ⟨m, hm⟩ := Sg.tgts_mem (g := r) hx; exact ⟨m, List.mem_cons_of_mem _ hm⟩
theorem ndK_not {k : Nat} {r : List Nat} (hh : ndK (k :: r) = true) : k ∉ r ∧ ndK r = true := by
  simp only [ndK, Bool.and_eq_true, Bool.not_eq_true', List.any_eq_false] at hh
  exact ⟨fun hm => hh.1 k hm (Nat.beq_refl _), hh.2⟩
theorem Sg.tgts_inj {m1 m2 t : Nat} : ∀ {g : Sg}, ndK g.tgts = true → (m1, some t) ∈ g → (m2, some t) ∈ g → m1 = m2
  | [], _, hx, _ => by cases hx
  | (a, some b) :: r, hn, h1, h2 => by
    obtain ⟨q1, q2⟩ := ndK_not hn
    rcases List.mem_cons.1 h1 with e1 | e1
    · cases e1
      rcases List.mem_cons.1 h2 with e2 | e2
      · cases e2; rfl
      · exact absurd (Sg.mem_tgts e2) q1
    · rcases List.mem_cons.1 h2 with e2 | e2
      · cases e2; exact absurd (Sg.mem_tgts e1) q1
      · exact Sg.tgts_inj (g := r) q2 e1 e2
  | (a, none) :: r, hn, h1, h2 => by
    rcases List.mem_cons.1 h1 with e1 | e1
    · cases e1
    · rcases List.mem_cons.1 h2 with e2 | e2
      · cases e2
      · exact Sg.tgts_inj (g := r) hn e1 e2
theorem sg_lobs {A : LAnn} {tm : Tm} {m : Nat} {x : Option Nat} (hx : (m, x) ∈ A.sg tm h) : ∃ p ∈ A.lobs, p.1 = m := by
  obtain ⟨p, h1, h2⟩ := List.mem_map.1 hx
  cases h2
  exact ⟨p, h1, rfl⟩
theorem sg_get {A : LAnn} {tm : Tm} (hn : ndK (A.lobs.map (·.1)) = true) {m : Nat} {x : Option Nat} (hx : (m, x) ∈ A.sg tm h) : (A.sg tm h).get m = some x := by
  unfold LAnn.sg at hx ⊢
  generalize A.lobs = l at hn hx
  induction l with
  | nil => cases hx
  | cons p r ih =>
    simp only [List.map_cons] at hn hx ⊢
    obtain ⟨q1, q2⟩ := ndK_not hn
    simp only [Sg.get]
    rcases List.mem_cons.1 hx with e | e
    · cases e; rw [Nat.beq_refl]; rfl
    · have hne : p.1.beq m = false := by
        cases hq : p.1.beq m with
        | false => rfl
        | true =>
          obtain ⟨p', r1, r2⟩ := List.mem_map.1 e
          cases r2
          exact absurd (List.mem_map.2 ⟨p', r1, (Nat.eq_of_beq_eq_true hq).symm⟩) q1
      rw [hne]
      exact ih q2 e
/-- What the names stand for, before and behind. -/
def AlOk (g : Sg) (αn α' : Nat → Pl) (id : Nat) : Prop := match g.get id with
  | none => αn id = α' id
  | some none => αn id = nilPl
  | some (some t) => αn id = α' t
theorem raw_undef {pc : PC} {b : SCl} : (SCl.raw undef).eqP pc b = false := by
  cases b with
  | raw v => cases v <;> rfl
  | _ => rfl
theorem SCl.rn_den {g : Sg} {pc : PC} (hpc : pc.Ok ρ) {αn α' : Nat → Pl} {a b : SCl} (hn : ∀ id, a.id? = some id → AlOk g αn α' id) (hh : (a.rn g).eqP pc b = true) : a.den ρ αn = b.den ρ α' := by
  cases hid : a.id? with
  | none =>
    have e : a.rn g = a := by unfold SCl.rn; rw [hid]
    rw [e] at hh
    rw [← (SCl.eqP_den (α := α') hpc hh).1]
    exact SCl.den_ids fun id q => by rw [hid] at q; cases q
  | some id =>
    have hk := hn id hid
    unfold AlOk at hk
    unfold SCl.rn at hh
    rw [hid] at hh
    simp only at hh
    cases hg : g.get id with
    | none =>
      rw [hg] at hh hk
      rw [← (SCl.eqP_den (α := α') hpc hh).1]
      exact SCl.den_ids fun id' q => by rw [hid] at q; cases q; exact hk
    | some x =>
      rw [hg] at hh hk
      simp only at hh
      cases a with
      | bls i n =>
        cases hid
        cases x with
        | none =>
          simp only at hh hk
          rw [← (SCl.eqP_den (α := α') hpc hh).1]
          simp only [SCl.den, hk]
          rfl
        | some t =>
          simp only at hh hk
          rw [← (SCl.eqP_den (α := α') hpc hh).1]
          simp only [SCl.den, hk]
      | _ => simp only [raw_undef, Bool.false_eq_true] at hh
theorem rns_den {g : Sg} {pc : PC} (hpc : pc.Ok ρ) {αn α' : Nat → Pl} : ∀ {as bs : List SCl}, (∀ id ∈ idsL as, AlOk g αn α' id) → eqPL pc (as.map (SCl.rn g)) bs = true → dens ρ αn as = dens ρ α' bs
  | [], [], _, _ => rfl
  | a :: r, b :: s, hn, hh => by
    simp only [List.map_cons, eqPL, Bool.and_eq_true] at hh
    have h1 := SCl.rn_den hpc (fun id q => hn id (List.mem_filterMap.2 ⟨a, List.mem_cons_self .., q⟩)) hh.1
    have h2 := rns_den hpc (fun id q => hn id (by
      obtain ⟨c, q1, q2⟩ := List.mem_filterMap.1 q
      exact List.mem_filterMap.2 ⟨c, List.mem_cons_of_mem _ q1, q2⟩)) hh.2
    simp only [dens, List.map_cons] at h2 ⊢
    rw [h1, h2]
  | [], _ :: _, _, hh => by cases hh
  | _ :: _, [], _, hh => by cases hh
theorem S1.rn_den {g : Sg} {pc : PC} (hpc : pc.Ok ρ) {αn α' : Nat → Pl} {a b : S1} (hn : ∀ id ∈ idsL a.cs, AlOk g αn α' id) (hh : (a.rn g).eqP pc b = true) : a.den ρ αn = b.den ρ α' := by
  obtain ⟨x, l⟩ := a; obtain ⟨y, m⟩ := b
  simp only [S1.rn, S1.eqP, Bool.and_eq_true] at hh
  obtain ⟨h1, h2⟩ := hh
  have h1 := eq_of_beq h1
  subst h1
  have e := rns_den hpc hn h2
  cases x with
  | true => simp only [S1.den, if_true]; simp only [dens] at e; rw [e]
  | false =>
    cases l <;> cases m <;> simp only [List.map_cons, List.map_nil, eqPL, Bool.false_eq_true, Bool.and_eq_true] at h2
    · rfl
    · rename_i c r c' r'
      simp only [dens, List.map_cons, List.cons.injEq] at e
      simp only [S1.den, Bool.false_eq_true, if_false]
      exact e.1
theorem rnS_den {g : Sg} {pc : PC} (hpc : pc.Ok ρ) {αn α' : Nat → Pl} : ∀ {as bs : List S1}, (∀ s ∈ as, ∀ id ∈ idsL s.cs, AlOk g αn α' id) → eqPS pc (as.map (S1.rn g)) bs = true → as.map (S1.den ρ αn) = bs.map (S1.den ρ α')
  | [], [], _, _ => rfl
  | a :: r, b :: s, hn, hh => by
    simp only [List.map_cons, eqPS, Bool.and_eq_true] at hh
    simp only [List.map_cons]
    rw [S1.rn_den hpc (hn a (List.mem_cons_self ..)) hh.1, rnS_den hpc (fun s hs => hn s (List.mem_cons_of_mem _ hs)) hh.2]
  | [], _ :: _, _, hh => by cases hh
  | _ :: _, [], _, hh => by cases hh
theorem SV.rn_den {g : Sg} {pc : PC} (hpc : pc.Ok ρ) {αn α' : Nat → Pl} {a b : SV} (hn : ∀ id ∈ a.ids, AlOk g αn α' id) (hh : (a.rn g).eqP pc b = true) : a.den ρ αn = b.den ρ α' := by
  cases a <;> cases b <;> simp only [SV.rn, SV.eqP, Bool.false_eq_true] at hh
  case one.one c _ => exact SCl.rn_den hpc (fun id q => hn id (List.mem_filterMap.2 ⟨c, by simp, q⟩)) hh
  case agg.agg => have e := rns_den hpc hn hh; simp only [dens] at e; simp only [SV.den, e]
  case tup.tup => have e := rnS_den hpc (fun s hs id hid => hn id (List.mem_flatMap.2 ⟨s, hs, hid⟩)) hh; simp only [SV.den, e]
/-! A loop's head from what stands there. -/
theorem inv_put {n' : Nat} {αn : Nat → Pl} {d' : Hp} (cx : Cx ρ W0 α0 h0 W nx) (hI : Inv ρ α0 h0 W (Rg nx n) α w d) (hn' : n ≤ n') (L T : Nat → Prop) (hL : ∀ m, L m → nx ≤ m ∧ m < n') (hα : ∀ m, ¬ L m → αn m = α m)
    (hsub : ∀ i, (d.get i).isSome = true → (d'.get i).isSome = true) (hT : ∀ i, T i → (d'.get i).isSome = true ∧ ∀ o, d.over h0 i = some o → o.ro = false)
    (hst : Stays (fun k => ∃ i o, T i ∧ d.over h0 i = some o ∧ o.adr (α i) = true ∧ (α i).blk = k) w w') (hat : ∀ id o, d'.get id = some (some o) → obAt ρ αn w' id o)
    (hinj : ∀ i j oi oj, i ≠ j → d'.get i = some (some oi) → d'.get j = some (some oj) → oi.adr (αn i) = true → oi.ro = false → oj.adr (αn j) = true → (αn i).blk = (αn j).blk → j ∈ oi.sib)
    (hD : ∀ id x, d'.get id = some x → L id ∨ d.get id = some x ∨ ∃ o, d.over h0 id = some o ∧ o.addr = true ∧ o.ro = false ∧ o.sib = [] ∧ ∀ o', x = some o' → o'.isL = o.isL)
    (hown : ∀ id o, L id → d'.get id = some (some o) → o.adr (αn id) = true → (∃ i o1, T i ∧ d.over h0 i = some o1 ∧ o1.adr (α i) = true ∧ (α i).blk = (αn id).blk) ∨ w.heap.size ≤ (αn id).blk) : Inv ρ α0 h0 W (Rg nx n') αn w' d' := by
  have nR : ∀ i o', h0 i = some o' → ¬ Rg nx n' i := fun i o' q r => by have := (cx.low i o' q).1; have := r.1; omega
  have nR0 : ∀ i o', h0 i = some o' → ¬ Rg nx n i := fun i o' q r => by have := (cx.low i o' q).1; have := r.1; omega
  have xs_sub : ∀ k, Xs (Rg nx n) α0 h0 d k → Xs (Rg nx n') α0 h0 d' k := by
    rintro k ⟨i, o, q1, _, q3, q4⟩
    exact ⟨i, o, hsub i q1, nR i o q3, q3, q4⟩
  have touched : ∀ k, (∃ i o, T i ∧ d.over h0 i = some o ∧ o.adr (α i) = true ∧ (α i).blk = k) → Xs (Rg nx n') α0 h0 d' k ∨ W.heap.size ≤ k := by
    rintro k ⟨i, o, hTi, ho, ha, hk⟩
    obtain ⟨hd, hro⟩ := hT i hTi
    have hro := hro o ho
    cases hdi : d.get i with
    | none =>
      rw [over_none hdi] at ho
      rw [hI.up.al i (nR0 i o ho)] at ha hk
      exact .inl ⟨i, o, hd, nR i o ho, ho, ha, hro, hk⟩
    | some x =>
      rw [over_some hdi] at ho
      subst ho
      rcases hI.ok i _ hdi with hR | ⟨o', q1, q2, q3, _⟩
      · rcases hI.up.own i o hR hdi ha with q | q
        · rw [hk] at q; exact .inl (xs_sub k q)
        · rw [hk] at q; exact .inr q
      · rw [hI.up.al i (nR0 i o' q1)] at ha hk
        refine .inl ⟨i, o', hd, nR i o' q1, q1, adr_kind ha q2.1 (q2.2 o rfl), ?_, hk⟩
        cases hq : o'.ro with
        | false => rfl
        | true => rw [q3 hq o rfl] at hro; cases hro
  refine ⟨⟨fun id hr => ?_, hI.up.st.trans hst (fun i _ hx => xs_sub i hx) fun i hi hx => (touched i hx).resolve_right (by omega), hat, fun id o hR e ha => ?_, hinj⟩, fun k x e => ?_⟩
  · rw [hα id fun q => hr ⟨(hL id q).1, (hL id q).2⟩]
    exact hI.up.al id fun q => hr ⟨q.1, Nat.lt_of_lt_of_le q.2 hn'⟩
  · by_cases hLi : L id
    · rcases hown id o hLi e ha with q | q
      · exact touched _ q
      · exact .inr (Nat.le_trans hI.up.st.size q)
    · rw [hα id hLi] at ha ⊢
      rcases hD id _ e with q | q | ⟨o1, q1, q2, q3, q4, q5⟩
      · exact absurd q hLi
      · rcases hI.ok id _ q with hR' | ⟨o', r1, _⟩
        · exact (hI.up.own id o hR' q ha).imp (xs_sub _) fun q => q
        · exact absurd hR (nR id o' r1)
      · cases hdi : d.get id with
        | none => rw [over_none hdi] at q1; exact absurd hR (nR id o1 q1)
        | some y =>
          rw [over_some hdi] at q1
          subst q1
          rcases hI.ok id _ hdi with hR' | ⟨o', r1, _⟩
          · exact (hI.up.own id o1 hR' hdi (adr_kind ha q2 (q5 o rfl))).imp (xs_sub _) fun q => q
          · exact absurd hR (nR id o' r1)
  · rcases hD k x e with q | q | ⟨o1, q1, q2, q3, q4, q5⟩
    · exact .inl (hL k q)
    · rcases hI.ok k x q with r | ⟨o, r1, r2, r3, r4⟩
      · exact .inl ⟨r.1, Nat.lt_of_lt_of_le r.2 hn'⟩
      · exact .inr ⟨o, r1, r2, r3, fun hro j hj => hsub j (r4 hro j hj)⟩
    · cases hdi : d.get k with
      | none =>
        rw [over_none hdi] at q1
        exact .inr ⟨o1, q1, ⟨q2, q5⟩, fun hro => (by rw [q3] at hro; cases hro), fun _ j hj => (by rw [q4] at hj; cases hj)⟩
      | some y =>
        rw [over_some hdi] at q1
        subst q1
        rcases hI.ok k _ hdi with r | ⟨o, r1, r2, r3, r4⟩
        · exact .inl ⟨r.1, Nat.lt_of_lt_of_le r.2 hn'⟩
        · refine .inr ⟨o, r1, ⟨r2.1, fun o' e' => (q5 o' e').trans (r2.2 o1 rfl)⟩, fun hro => ?_, fun hro j hj => hsub j (r4 hro j hj)⟩
          have := r3 hro o1 rfl
          rw [q3] at this
          cases this
/-- A list that grows stands there. -/
def LbOk (ρ : EnvS) (g : Sg) (h : Vw) (p : Nat × LB) : Prop := (g.get p.1 = some none ∧ p.2.n.den ρ = 0) ∨
  ∃ t b, g.get p.1 = some (some t) ∧ h t = some (.lst b) ∧ p.2.elem = b.elem ∧ p.2.ks = b.ks ∧ p.2.n.den ρ = b.n.den ρ ∧ ∀ (α : Nat → Pl) (j : Nat), (j : Int) < p.2.n.den ρ → valsB ρ α p.2 j = valsB ρ α b j
theorem eqLb_spec {pc : PC} (hpc : pc.Ok ρ) {ax : List (LB × LB)} (hax : AxOk ρ ax) {g : Sg} {lobs : List (Nat × LB)} (hh : eqLb pc ax g lobs h = true) : ∀ p ∈ lobs, LbOk ρ g h p := by
  intro p hp
  have := List.all_eq_true.1 hh p hp
  split at this
  · rename_i e; exact .inl ⟨e, IE.eqP_den hpc this⟩
  · rename_i t e
    split at this
    · rename_i b hb
      rw [Bool.or_eq_true] at this
      rcases this with this | this
      · obtain ⟨h1, h2, h3, h4⟩ := like_den hpc this
        exact .inr ⟨t, b, e, hb, h1, h2, h3, fun α j _ => h4 α j⟩
      · simp only [Bool.and_eq_true, List.any_eq_true] at this
        obtain ⟨h1, h2, h3, q, hq, h4, h5⟩ := this
        obtain ⟨_, _, a3, a4⟩ := like_den hpc h4
        obtain ⟨_, _, _, b4⟩ := like_den hpc h5
        refine .inr ⟨t, b, e, hb, Nat.eq_of_beq_eq_true h1, sameK_eq h2, IE.eqP_den hpc h3, fun α j hj => ?_⟩
        rw [← a4, ← b4]
        exact hax q hq α j (by rw [a3]; exact hj)
    · cases this
  · cases this
theorem lb_at {g : Sg} {αn α' : Nat → Pl} {p : Nat × LB} (hn : AlOk g αn α' p.1) (hl : LbOk ρ g h p) (hu : p.2.ups = []) (hat : ∀ t b, h t = some (.lst b) → lstAt ρ α' w t b) : lstAt ρ αn w p.1 p.2 := by
  unfold AlOk at hn
  rcases hl with ⟨h1, e⟩ | ⟨t, b, h1, h2, h3, h4, h5, h6⟩
  · rw [h1] at hn
    exact ⟨by rw [e]; exact Int.le_refl _, fun _ => ⟨e, none, by rw [hn]; rfl⟩, fun q => by rw [hn] at q; cases q⟩
  · rw [h1] at hn
    refine lstAt_eq (ρ := ρ) (α := α') (b := b) hn.symm h3.symm h4.symm h5.symm (fun j hj => ?_) (hat t b h2)
    rw [← h6 α' j (by rw [h5]; exact hj)]
    exact valsB_ids (fun m hm => by simp only [Ob.ids, hu] at hm; cases hm) j
structure Start (A : LAnn) (rd : Option Nat) (h : Vw) (s : St) : Prop where
  nd : ndK (A.all.map (·.1)) = true
  ndl : ndK (A.lobs.map (·.1)) = true
  mks : s.mks = []
  nx : A.lobs = [] ∧ A.nx ≤ s.next ∨ s.next ≤ A.nx
  tm : ∀ p ∈ A.tms.sb A.i (.lit 0), ∃ v, s.tm.get p.1 = some v ∧ (p.2.rn (A.sg s.tm h)).eqP s.pc v = true
  ob : ∀ p ∈ obsS A.i (.lit 0) A.obs, ∃ b, h p.1 = some (.blk b) ∧ p.2.elem = b.elem ∧ p.2.sz = b.sz ∧ b.ro = false ∧ b.sib = [] ∧ eqPL s.pc (p.2.cs.map (SCl.rn (A.sg s.tm h))) b.cs = true
  lb : eqLb s.pc A.ax0 (A.sg s.tm h) (lobsS A.i (.lit 0) A.lobs) h = true
  obs : ∀ p ∈ A.obs, p.1 < A.nx ∧ p.1 < s.next ∧ p.2.sib = [] ∧ p.2.ro = false ∧ (∀ m ∈ idsL p.2.cs, m < A.nx) ∧ ∀ c ∈ p.2.cs, c.okI A.i = true
  cobs : ∀ id ∈ A.cobs, id < A.nx ∧ id < s.next ∧ id ∉ (A.sg s.tm h).tgts ∧ ∀ o, h id = some o → (∀ m ∈ o.ids, m < A.nx) ∧ o.noI A.i = true
  tl : ∀ m ∈ A.tms.ids, m < A.nx
  ok : ∀ p ∈ A.tms, p.2.okI A.i = true
  lobs : ∀ p ∈ A.lobs, s.next ≤ p.1 ∧ p.1 < A.nx ∧ p.2.ups = []
  tgn : ndK (A.sg s.tm h).tgts = true
  tgs : ∀ j ∈ (A.sg s.tm h).tgts, j < s.next ∧ ∀ p ∈ A.obs, p.1 ≠ j
  rd : ∀ l, rd = some l → ∃ y, hv (A.view h) l = some (.yld y)
theorem eqTm_spec {pc : PC} {g : Sg} {tm tm' : Tm} (hh : eqTm pc g tm tm' = true) : ∀ p ∈ tm, ∃ v, tm'.get p.1 = some v ∧ (p.2.rn g).eqP pc v = true := by
  intro p hp
  have := List.all_eq_true.1 hh p hp
  split at this
  · rename_i v hv; exact ⟨v, hv, this⟩
  · cases this
theorem eqOb_spec {pc : PC} {g : Sg} {obs : List (Nat × Blk)} (hh : eqOb pc g obs h = true) : ∀ p ∈ obs, ∃ b, h p.1 = some (.blk b) ∧ p.2.elem = b.elem ∧ p.2.sz = b.sz ∧ b.ro = false ∧ b.sib = [] ∧ eqPL pc (p.2.cs.map (SCl.rn g)) b.cs = true := by
  intro p hp
  have := List.all_eq_true.1 hh p hp
  split at this
  · rename_i b hb
    simp only [Bool.and_eq_true, Bool.not_eq_true', List.isEmpty_iff] at this
    obtain ⟨h1, h2, h3, h4, h5⟩ := this
    exact ⟨b, hb, Nat.eq_of_beq_eq_true h1, Nat.eq_of_beq_eq_true h2, h3, h4, h5⟩
  · cases this
theorem ndK_right : ∀ {a b : List Nat}, ndK (a ++ b) = true → ndK b = true
  | [], _, hh => hh
  | _ :: a, _, hh => ndK_right (a := a) (ndK_not hh).2
theorem startOk_spec {A : LAnn} {rd : Option Nat} {s : St} (hh : A.startOk rd h s = true) : Start A rd h s := by
  simp only [LAnn.startOk, Bool.and_eq_true] at hh
  obtain ⟨h0, h1, h2, h3, h4, h5, h6, h7, h8, h9, h10, h11, h12, h13⟩ := hh
  have hnd : ndK (A.all.map (·.1)) = true := by
    unfold LAnn.all
    rw [List.map_append, List.map_map, List.map_map]
    exact h0
  refine ⟨hnd, ndK_right h0, List.isEmpty_iff.1 h1, ?_, eqTm_spec h3, eqOb_spec h4, h10, fun p hp => ?_, fun id hid => ?_, lowL_iff.1 h7, List.all_eq_true.1 h8, fun p hp => ?_, h11, fun j hj => ?_, fun l hl => ?_⟩
  · simp only [Bool.or_eq_true, Bool.and_eq_true, List.isEmpty_iff, Nat.ble_eq] at h2
    exact h2
  · have := List.all_eq_true.1 h5 p hp
    simp only [Bool.and_eq_true, Bool.not_eq_true', List.isEmpty_iff, Nat.blt_eq] at this
    obtain ⟨q1, q2, q3, q4, q5, q6⟩ := this
    exact ⟨q1, q2, q3, q4, lowL_iff.1 q5, List.all_eq_true.1 q6⟩
  · have := List.all_eq_true.1 h6 id hid
    simp only [Bool.and_eq_true, Nat.blt_eq, Bool.not_eq_true', List.any_eq_false] at this
    refine ⟨this.1, this.2.1, fun hm => this.2.2.1 id hm (Nat.beq_refl _), fun o ho => ?_⟩
    have q := this.2.2.2
    rw [ho] at q
    simp only [Bool.and_eq_true] at q
    exact ⟨lowL_iff.1 q.1, q.2⟩
  · have := List.all_eq_true.1 h9 p hp
    simp only [Bool.and_eq_true, Nat.blt_eq, Nat.ble_eq, List.isEmpty_iff] at this
    exact this
  · have := List.all_eq_true.1 h12 j hj
    simp only [Bool.and_eq_true, Nat.blt_eq, Bool.not_eq_true', List.any_eq_false] at this
    exact ⟨this.1, fun p hp e => this.2 p hp (by rw [e]; exact Nat.beq_refl _)⟩
  · subst hl
    simp only at h13
    split at h13
    · rename_i y hy; exact ⟨y, hy⟩
    · cases h13
theorem maxN_l (a b : Nat) : a ≤ maxN a b := by
  unfold maxN; split
  · rename_i q; exact Nat.le_of_ble_eq_true q
  · exact Nat.le_refl _
theorem maxN_r (a b : Nat) : b ≤ maxN a b := by
  unfold maxN; split
  · exact Nat.le_refl _
  · rename_i q; exact Nat.le_of_lt (Nat.lt_of_not_le fun h => q (by rw [Nat.ble_eq]; exact h))
theorem maxN_lt {a b m : Nat} (h : m < maxN a b) : m < a ∨ m < b := by
  unfold maxN at h; split at h
  · exact .inr h
  · exact .inl h
/-- The loop's head at round j. -/
noncomputable def SJ (A : LAnn) (tg : List Nat) (s : St) (j : Int) : St := ⟨A.pc ++ s.pc, A.tms.sb A.i (.lit j), Hp.app (osH (osS A.i (.lit j) A.all)) (Hp.app (dropAll tg) s.d), maxN s.next A.nx, []⟩
theorem PC.Ok.append {a b : PC} (ha : a.Ok ρ) (hb : b.Ok ρ) : PC.Ok ρ (a ++ b) := by
  intro c v hm
  rcases List.mem_append.1 hm with h | h
  · exact ha c v h
  · exact hb c v h
theorem sbo_ids {i : Nat} {e : IE} {o : Ob} (ho : (∃ b, o = .blk b) ∨ ∃ b, o = .lst b) : (o.sbo i e).ids = o.ids := by
  rcases ho with ⟨b, rfl⟩ | ⟨b, rfl⟩
  · show idsL (b.cs.map (SCl.sb i e)) ++ b.sib = _
    rw [sbs_ids]; rfl
  · rfl
theorem sbo_kind {i : Nat} {e : IE} {o : Ob} : (o.sbo i e).addr = o.addr ∧ (o.sbo i e).ro = o.ro ∧ (o.sbo i e).sib = o.sib ∧ (o.sbo i e).isL = o.isL := by
  cases o <;> exact ⟨rfl, rfl, rfl, rfl⟩
theorem sbo_adr {i : Nat} {e : IE} {o : Ob} {p : Pl} : (o.sbo i e).adr p = o.adr p := by cases o <;> rfl
section
variable {A : LAnn} {rd : Option Nat} {s : St}
theorem all_kind {p : Nat × Ob} (hp : p ∈ A.all) : (∃ b, p.2 = .blk b) ∨ ∃ b, p.2 = .lst b := by
  rcases all_mem hp with ⟨q, _, rfl⟩ | ⟨q, _, rfl⟩
  · exact .inl ⟨_, rfl⟩
  · exact .inr ⟨_, rfl⟩
/-- What is true of each object that changes in the loop. -/
theorem all_spec (hS : Start A rd h s) {p : Nat × Ob} (hp : p ∈ A.all) : p.1 < A.nx ∧ p.2.addr = true ∧ p.2.ro = false ∧ p.2.sib = [] ∧ ∀ m ∈ p.2.ids, m < A.nx := by
  rcases all_mem hp with ⟨q, hq, rfl⟩ | ⟨q, hq, rfl⟩
  · obtain ⟨h1, _, h3, h4, h5, _⟩ := hS.obs q hq
    refine ⟨h1, rfl, h4, h3, fun m hm => ?_⟩
    simp only [Ob.ids, h3, List.append_nil] at hm
    exact h5 m hm
  · exact ⟨(hS.lobs q hq).2.1, rfl, rfl, rfl, fun m hm => by simp only [Ob.ids, (hS.lobs q hq).2.2] at hm; cases hm⟩
theorem osH_low {ob : List (Nat × Ob)} {m : Nat} (hh : ∀ p ∈ ob, p.1 < m ∧ ∀ k ∈ p.2.ids, k < m) : DLow m (osH ob) := by
  intro k x hk
  obtain ⟨p, hp, rfl, rfl⟩ := osH_get hk
  obtain ⟨h1, h3⟩ := hh p hp
  refine ⟨h1, fun o ho m hm => ?_⟩
  cases ho
  exact h3 m hm
theorem allS_low (hS : Start A rd h s) (e : IE) : DLow (maxN s.next A.nx) (osH (osS A.i e A.all)) := by
  refine osH_low fun p hp => ?_
  obtain ⟨q, hq, rfl⟩ := osS_mem hp
  obtain ⟨h1, _, _, _, h5⟩ := all_spec hS hq
  have := maxN_r s.next A.nx
  refine ⟨by simp only; omega, fun k hk => ?_⟩
  rw [sbo_ids (all_kind hq)] at hk
  have := h5 k hk
  omega
theorem dropAll_low (hS : Start A rd h s) : DLow (maxN s.next A.nx) (dropAll (A.sg s.tm h).tgts) := by
  intro k x hk
  have hm := (dropAll_some _ k).1 (by rw [hk]; rfl)
  have := (hS.tgs k hm).1
  have := maxN_l s.next A.nx
  refine ⟨by omega, fun o ho => ?_⟩
  rw [dropAll_get _ _ _ hk] at ho
  cases ho
theorem SJ_low (hS : Start A rd h s) (hdl : DLow s.next s.d) (e : IE) : DLow (maxN s.next A.nx) (Hp.app (osH (osS A.i e A.all)) (Hp.app (dropAll (A.sg s.tm h).tgts) s.d)) :=
  (allS_low hS e).app ((dropAll_low hS).app (hdl.mono (maxN_l _ _)))
/-- The entries at a head. -/
theorem head_get (e : IE) {tg : List Nat} {id : Nat} {x : Option Ob} (hx : (Hp.app (osH (osS A.i e A.all)) (Hp.app (dropAll tg) s.d)).get id = some x) :
    (∃ p ∈ A.all, p.1 = id ∧ x = some (p.2.sbo A.i e)) ∨ ((osH A.all).get id = none ∧ id ∈ tg ∧ x = none) ∨ ((osH A.all).get id = none ∧ id ∉ tg ∧ s.d.get id = some x) := by
  rw [Hp.get_app] at hx
  cases h1 : (osH (osS A.i e A.all)).get id with
  | some y =>
    rw [h1] at hx
    cases hx
    obtain ⟨p, hp, h2, h3⟩ := osH_get h1
    obtain ⟨q, hq, rfl⟩ := osS_mem hp
    exact .inl ⟨q, hq, h2, h3⟩
  | none =>
    have hn : (osH A.all).get id = none := by
      have := osS_isSome A.i e id A.all
      rw [h1] at this
      cases hq : (osH A.all).get id with
      | none => rfl
      | some y => rw [hq] at this; cases this
    rw [h1] at hx
    simp only [Hp.get_app] at hx
    cases h2 : (dropAll tg).get id with
    | some y =>
      rw [h2] at hx
      cases hx
      exact .inr (.inl ⟨hn, (dropAll_some _ _).1 (by rw [h2]; rfl), dropAll_get _ _ _ h2⟩)
    | none =>
      rw [h2] at hx
      refine .inr (.inr ⟨hn, fun q => ?_, hx⟩)
      have := (dropAll_some tg id).2 q
      rw [h2] at this
      cases this
theorem head_all (hS : Start A rd h s) (e : IE) (dd : Hp) {p : Nat × Ob} (hp : p ∈ A.all) : (Hp.app (osH (osS A.i e A.all)) dd).get p.1 = some (some (p.2.sbo A.i e)) := by
  rw [Hp.get_app, osS_get, ndK_osH hS.nd p hp]
  rfl
theorem head_tg {e : IE} {tg : List Nat} {id : Nat} (h1 : (osH A.all).get id = none) (h2 : id ∈ tg) : (Hp.app (osH (osS A.i e A.all)) (Hp.app (dropAll tg) s.d)).get id = some none := by
  rw [Hp.get_app, osS_get, h1]
  simp only [Option.map_none, Hp.get_app]
  obtain ⟨x, hx⟩ := Option.isSome_iff_exists.1 ((dropAll_some tg id).2 h2)
  rw [hx, dropAll_get _ _ _ hx]
theorem head_other {e : IE} {tg : List Nat} {id : Nat} (h1 : (osH A.all).get id = none) (h2 : id ∉ tg) : (Hp.app (osH (osS A.i e A.all)) (Hp.app (dropAll tg) s.d)).get id = s.d.get id := by
  rw [Hp.get_app, osS_get, h1]
  simp only [Option.map_none, Hp.get_app]
  cases hx : (dropAll tg).get id with
  | none => rfl
  | some y => exact absurd ((dropAll_some tg id).1 (by rw [hx]; rfl)) h2
theorem head_keys {e e' : IE} {tg : List Nat} (i : Nat) : ((Hp.app (osH (osS A.i e A.all)) (Hp.app (dropAll tg) s.d)).get i).isSome = ((Hp.app (osH (osS A.i e' A.all)) (Hp.app (dropAll tg) s.d)).get i).isSome := by
  simp only [Hp.get_app, osS_get]
  cases (osH A.all).get i <;> rfl
theorem get_lobs (hS : Start A rd h s) {tm : Tm} {h' : Vw} {m : Nat} (hm : ((A.sg tm h').get m).isSome = true) : ∃ p ∈ A.lobs, p.1 = m ∧ s.next ≤ m ∧ m < A.nx := by
  obtain ⟨x, hx⟩ := Option.isSome_iff_exists.1 hm
  obtain ⟨p, hp, e⟩ := sg_lobs (Sg.get_mem hx)
  have := hS.lobs p hp
  exact ⟨p, hp, e, by omega, by omega⟩
theorem lb_get {g : Sg} {p : Nat × LB} (hl : LbOk ρ g h p) : (g.get p.1).isSome = true := by
  rcases hl with ⟨h1, _⟩ | ⟨t, b, h1, _⟩ <;> rw [h1] <;> rfl
theorem alN_other {g : Sg} {m : Nat} (hm : ¬ (g.get m).isSome = true) : alN g α α' m = α m := by
  unfold alN
  cases hq : g.get m with
  | none => rfl
  | some x => rw [hq] at hm; exact absurd rfl hm
theorem alN_ok {g : Sg} {m : Nat} (hm : g.get m = none → α m = α' m) : AlOk g (alN g α α') α' m := by
  unfold AlOk alN
  cases hq : g.get m with
  | none => exact hm hq
  | some x => cases x <;> rfl
theorem lobsS_mem {i : Nat} {e : IE} {l : List (Nat × LB)} {q : Nat × LB} (hq : q ∈ l) : (q.1, q.2.sb i e) ∈ lobsS i e l := List.mem_map.2 ⟨q, hq, rfl⟩
theorem obsS_mem' {i : Nat} {e : IE} {l : List (Nat × Blk)} {q : Nat × Blk} (hq : q ∈ l) : (q.1, q.2.sb i e) ∈ obsS i e l := List.mem_map.2 ⟨q, hq, rfl⟩
theorem all_name {p : Nat × Ob} (hp : p ∈ A.all) : ((osH A.all).get p.1).isSome = true := osH_some hp
end
end
end Go.Proofs.Ytmpadjlplgajcaa
