/- The executor's laws: a call. -/
import Derived.Test.YtmpadjlplgajcaaE4K
namespace Go.Proofs.Ytmpadjlplgajcaa
open Go.RowKit
section
variable {ρ : EnvS} {P : Program}
theorem SCl.same_eq {a b : SCl} (h : a.same b = true) : a = b := by
  cases a <;> cases b <;> simp [SCl.same] at h
  · rw [LD.same_eq h]
  · rw [LD.same_eq h.1, IE.same_eq _ _ h.2.1, h.2.2]
  · rw [h.1, IE.same_eq _ _ h.2.1, h.2.2]
  · rw [same_kind h.1, IE.same_eq _ _ h.2]
  · rw [BE.same_eq _ _ h]
  · rw [rawEq_eq h]
  · rw [IE.same_eq _ _ h]
theorem sameL_eq : ∀ {as bs : List SCl}, sameL as bs = true → as = bs
  | [], [], _ => rfl
  | a :: as, b :: bs, h => by
    simp only [sameL, Bool.and_eq_true] at h
    rw [SCl.same_eq h.1, sameL_eq h.2]
  | [], _ :: _, h => by simp [sameL] at h
  | _ :: _, [], h => by simp [sameL] at h
theorem SV.same_eq {a b : SV} (h : a.same b = true) : a = b := by
  cases a <;> cases b <;> simp [SV.same] at h
  · rw [SCl.same_eq h]
  · rw [sameL_eq h]
theorem sameVs_eq : ∀ {as bs : List SV}, sameVs as bs = true → as = bs
  | [], [], _ => rfl
  | a :: as, b :: bs, h => by
    simp only [sameVs, Bool.and_eq_true] at h
    rw [SV.same_eq h.1, sameVs_eq h.2]
  | [], _ :: _, h => by simp [sameVs] at h
  | _ :: _, [], h => by simp [sameVs] at h
theorem flat_ids (v : SV) : v.ids = idsL v.flat := by
  cases v with
  | one c => rfl
  | agg cs => rfl
  | tup vs =>
    show vs.flatMap (fun s => idsL s.cs) = idsL (vs.flatMap fun s => s.cs)
    induction vs with
    | nil => rfl
    | cons s r ih => simp only [List.flatMap_cons, idsL_append, ih]
theorem blcs_mem {v : SV} {p : Nat × LB} (hp : p ∈ v.blcs) : ∃ e i h n ks, SCl.blc p.1 e i h n ks ∈ v.flat ∧ p.2 = ⟨e, i, h, n, ks, []⟩ := by
  obtain ⟨c, hc, h2⟩ := List.mem_flatMap.1 hp
  cases c with
  | blc k e i h n ks =>
    simp only [SCl.blcs, List.mem_singleton] at h2
    subst h2
    exact ⟨e, i, h, n, ks, hc, rfl⟩
  | _ => simp [SCl.blcs] at h2
theorem blcs_ids {v : SV} {p : Nat × LB} (hp : p ∈ v.blcs) : p.1 ∈ v.ids := by
  obtain ⟨e, i, h, n, ks, h1, _⟩ := blcs_mem hp
  rw [flat_ids]
  exact List.mem_filterMap.2 ⟨_, h1, rfl⟩
/-- The lists that a call hands back are its own. -/
structure OutOk (ρ : EnvS) (α' : Nat → Pl) (w w' : World) (v : SV) : Prop where
  at_ : ∀ p ∈ v.blcs, lstAt ρ α' w' p.1 p.2
  nw : ∀ p ∈ v.blcs, (α' p.1).isNil = false → w.heap.size ≤ (α' p.1).blk
  ap : ∀ p ∈ v.blcs, ∀ q ∈ v.blcs, p.1 ≠ q.1 → (α' p.1).isNil = false → (α' q.1).isNil = false → (α' p.1).blk ≠ (α' q.1).blk
def lstH (l : List (Nat × LB)) : Hp := l.map fun p => (p.1, some (.lst p.2))
/-- What is said of a call: behind W0, with the lists that its arguments tell. -/
def ConSays (P : Program) (ρ : EnvS) (W0 : World) (f : FuncId) (args : List SV) (v : SV) : Prop :=
  ∀ (α : Nat → Pl) (w : World), Below W0.heap.size W0 w → Obs ρ W0.heap.size α w (hv (lstH (insV args))) →
    Calls P f (args.map (SV.den ρ α)).toArray w (fun e w' => ∃ α', e = .returned (v.den ρ α') ∧ Below w.heap.size w w' ∧ OutOk ρ α' w w' v)
/-- What is known of calls is so. -/
def ConOk (P : Program) (ρ : EnvS) (con : Con) : Prop :=
  ∀ f args v, (f, args, v) ∈ con → v.ids = [] ∧ ∀ (α : Nat → Pl) (w : World), Calls P f (args.map (SV.den ρ α)).toArray w (fun e w' => e = .returned (v.den ρ α) ∧ Below w.heap.size w w')
/-- What is known of calls is so in every world that lies behind W0. -/
def ConOkW (P : Program) (ρ : EnvS) (W0 : World) (con : Con) : Prop := ∀ f args v, (f, args, v) ∈ con → ConSays P ρ W0 f args v
theorem says_plain {P : Program} {ρ : EnvS} {W0 : World} {f : FuncId} {args : List SV} {v : SV} (hv : v.ids = []) (h : ∀ (α : Nat → Pl) (w : World), Below W0.heap.size W0 w → Calls P f (args.map (SV.den ρ α)).toArray w (fun e w' => e = .returned (v.den ρ α) ∧ Below w.heap.size w w')) : ConSays P ρ W0 f args v := fun α w hw _ => (h α w hw).mono fun e w' ⟨e1, hb⟩ => ⟨α, e1, hb, by
  have hn : ∀ p ∈ v.blcs, False := fun p hp => by have := blcs_ids hp; rw [hv] at this; cases this
  exact ⟨fun p hp => (hn p hp).elim, fun p hp => (hn p hp).elim, fun p hp => (hn p hp).elim⟩⟩
theorem ConOk.at {con : Con} (h : ConOk P ρ con) (W0 : World) : ConOkW P ρ W0 con := fun f args v hm => says_plain (h f args v hm).1 fun α w _ => (h f args v hm).2 α w
/-! A call by a contract that tells lists. -/
theorem pair_snd {l : List (Nat × Nat)} {a b c : Nat} (hn : ndK (l.map (·.2)) = true) (h1 : (a, c) ∈ l) (h2 : (b, c) ∈ l) : a = b := by
  induction l with
  | nil => cases h1
  | cons q r ih =>
    obtain ⟨q1, q2⟩ := ndK_not hn
    rcases List.mem_cons.1 h1 with e1 | e1
    · rcases List.mem_cons.1 h2 with e2 | e2
      · rw [← e1] at e2; cases e2; rfl
      · subst e1; exact absurd (List.mem_map.2 ⟨_, e2, rfl⟩) q1
    · rcases List.mem_cons.1 h2 with e2 | e2
      · subst e2; exact absurd (List.mem_map.2 ⟨_, e1, rfl⟩) q1
      · exact ih q2 e1 e2
theorem con_findL {pc : PC} {hh : Vw} {f : FuncId} {args : List SV} {v : SV} : ∀ {con : Con}, Con.findL pc hh f args con = some v → ∃ xs, (f, xs, v) ∈ con ∧ mtVs pc hh xs args = true ∧ ndK ((bdVs xs args).map (·.1)) = true ∧ ndK ((bdVs xs args).map (·.2)) = true
  | [], h => by cases h
  | (g, as, u) :: r, h => by
    simp only [Con.findL] at h
    cases hc : (g.beq f && (mtVs pc hh as args && (ndK ((bdVs as args).map (·.1)) && ndK ((bdVs as args).map (·.2))))) with
    | true =>
      rw [hc] at h
      simp only [cond_true, Option.some.injEq] at h
      subst h
      simp only [Bool.and_eq_true] at hc
      obtain ⟨h1, h2, h3, h4⟩ := hc
      have h1 : g = f := Nat.eq_of_beq_eq_true h1
      subst h1
      exact ⟨as, List.mem_cons_self .., h2, h3, h4⟩
    | false =>
      rw [hc] at h
      obtain ⟨xs, h1, h2⟩ := con_findL (con := r) h
      exact ⟨xs, List.mem_cons_of_mem _ h1, h2⟩
def bdG (l : List (Nat × Nat)) (m : Nat) : Option Nat := (l.find? fun p => p.1.beq m).map (·.2)
theorem bdG_mem : ∀ {l : List (Nat × Nat)}, ndK (l.map (·.1)) = true → ∀ p ∈ l, bdG l p.1 = some p.2
  | [], _, p, hp => by cases hp
  | q :: r, hn, p, hp => by
    obtain ⟨q1, q2⟩ := ndK_not hn
    unfold bdG
    rw [List.find?_cons]
    rcases List.mem_cons.1 hp with e | e
    · subst e; rw [Nat.beq_refl]; rfl
    · have : q.1.beq p.1 = false := by
        cases hq : q.1.beq p.1 with
        | false => rfl
        | true => exact absurd (List.mem_map.2 ⟨p, e, (Nat.eq_of_beq_eq_true hq).symm⟩) q1
      rw [this]
      exact bdG_mem q2 p e
/-- The names of a contract's lists, as the call has them. -/
def alB (l : List (Nat × Nat)) (α : Nat → Pl) : Nat → Pl := fun m => match bdG l m with | some id => α id | none => α m
theorem mt_den {pc : PC} (hpc : pc.Ok ρ) {hh : Vw} {α : Nat → Pl} {l : List (Nat × Nat)} {a b : SCl} (h : a.mt pc hh b = true) (hl : ∀ k e i hk n ks id n', a = .blc k e i hk n ks → b = .bls id n' → alB l α k = α id) : a.den ρ (alB l α) = b.den ρ α := by
  have key : a.same b = true → a.den ρ (alB l α) = b.den ρ α := fun hs => by
    cases a <;> cases b <;> simp only [SCl.same, Bool.and_eq_true, Bool.false_eq_true, Nat.beq_eq] at hs
    case int.int => rw [same_kind hs.1, IE.same_eq _ _ hs.2]; rfl
    case bool.bool => rw [BE.same_eq _ _ hs]; rfl
    case ssl.ssl => rw [LD.same_eq hs]; rfl
    case ept.ept => rw [LD.same_eq hs.1, IE.same_eq _ _ hs.2.1, hs.2.2]; rfl
    case opq.opq => rw [hs.1, IE.same_eq _ _ hs.2.1, hs.2.2]; rfl
    case str.str => rw [IE.same_eq _ _ hs]; rfl
    case raw.raw => rw [rawEq_eq hs]; rfl
  cases a with
  | blc k e i hk n ks =>
    cases b with
    | bls id n' =>
      simp only [SCl.mt] at h
      split at h
      · rename_i b hb
        rw [Bool.and_eq_true] at h
        obtain ⟨_, _, e3, _⟩ := like_den hpc h.1
        have e4 := IE.same_eq _ _ h.2
        simp only at e3
        simp only [SCl.den, hl k e i hk n ks id n' rfl rfl, e3, e4]
      · cases h
    | _ => cases h
  | _ => exact key h
theorem mtL_den {pc : PC} (hpc : pc.Ok ρ) {hh : Vw} {α : Nat → Pl} {l : List (Nat × Nat)} : ∀ {as bs : List SCl}, mtL pc hh as bs = true → (∀ p ∈ bdL as bs, alB l α p.1 = α p.2) → dens ρ (alB l α) as = dens ρ α bs
  | [], [], _, _ => rfl
  | a :: r, b :: s, h, hl => by
    simp only [mtL, Bool.and_eq_true] at h
    have hs : ∀ p ∈ bdL r s, p ∈ bdL (a :: r) (b :: s) := fun p hp => by
      simp only [bdL]
      split
      · exact List.mem_cons_of_mem _ hp
      · exact hp
    have e1 := mt_den (l := l) hpc h.1 fun k e i hk n ks id n' ea eb => hl (k, id) (by subst ea; subst eb; simp [bdL])
    have e2 := mtL_den hpc h.2 fun p hp => hl p (hs p hp)
    simp only [dens, List.map_cons] at e2 ⊢
    rw [e1, e2]
  | [], _ :: _, h, _ => by cases h
  | _ :: _, [], h, _ => by cases h
theorem mtVs_den {pc : PC} (hpc : pc.Ok ρ) {hh : Vw} {α : Nat → Pl} {l : List (Nat × Nat)} : ∀ {as bs : List SV}, mtVs pc hh as bs = true → (∀ p ∈ bdVs as bs, alB l α p.1 = α p.2) → as.map (SV.den ρ (alB l α)) = bs.map (SV.den ρ α)
  | [], [], _, _ => rfl
  | a :: r, b :: s, h, hl => by
    simp only [mtVs, Bool.and_eq_true] at h
    have e2 := mtVs_den hpc h.2 fun p hp => hl p (List.mem_append_right _ hp)
    have hl1 : ∀ p ∈ bdL a.flat b.flat, alB l α p.1 = α p.2 := fun p hp => hl p (List.mem_append_left _ hp)
    simp only [List.map_cons]
    rw [e2]
    congr 1
    have h1 := h.1
    cases a <;> cases b <;> simp only [SV.mt, Bool.false_eq_true] at h1
    case one.one x y => have := mtL_den (hh := hh) (as := [x]) (bs := [y]) (l := l) (α := α) hpc (by simp [mtL, h1]) hl1; simp only [dens, List.map_cons, List.map_nil, List.cons.injEq, and_true] at this; exact this
    case agg.agg x y => have := mtL_den (l := l) (α := α) hpc h1 hl1; simp only [dens] at this; simp only [SV.den, this]
  | [], _ :: _, h, _ => by cases h
  | _ :: _, [], h, _ => by cases h
theorem mtL_ins {pc : PC} {hh : Vw} : ∀ {as bs : List SCl}, mtL pc hh as bs = true → ∀ p ∈ as.flatMap SCl.blcs, ∃ id b, (p.1, id) ∈ bdL as bs ∧ hh id = some (.lst b) ∧ LB.like pc p.2 b = true
  | [], _, _, p, hp => by cases hp
  | a :: r, [], h, p, hp => by cases h
  | a :: r, b :: s, h, p, hp => by
    simp only [mtL, Bool.and_eq_true] at h
    rw [List.flatMap_cons, List.mem_append] at hp
    rcases hp with hp | hp
    · cases a with
      | blc k e i hk n ks =>
        simp only [SCl.blcs, List.mem_singleton] at hp
        subst hp
        cases b with
        | bls id n' =>
          have h1 := h.1
          simp only [SCl.mt] at h1
          split at h1
          · rename_i b hb
            rw [Bool.and_eq_true] at h1
            exact ⟨id, b, by simp [bdL], hb, h1.1⟩
          · cases h1
        | _ => exact absurd h.1 (by simp [SCl.mt])
      | _ => simp [SCl.blcs] at hp
    · obtain ⟨id, b', q1, q2⟩ := mtL_ins h.2 p hp
      refine ⟨id, b', ?_, q2⟩
      simp only [bdL]
      split
      · exact List.mem_cons_of_mem _ q1
      · exact q1
theorem mtVs_ins {pc : PC} {hh : Vw} : ∀ {as bs : List SV}, mtVs pc hh as bs = true → ∀ p ∈ insV as, ∃ id b, (p.1, id) ∈ bdVs as bs ∧ hh id = some (.lst b) ∧ LB.like pc p.2 b = true
  | [], _, _, p, hp => by cases hp
  | a :: r, [], h, p, hp => by cases h
  | a :: r, b :: s, h, p, hp => by
    simp only [mtVs, Bool.and_eq_true] at h
    have hp : p ∈ a.blcs ++ insV r := hp
    rw [List.mem_append] at hp
    rcases hp with hp | hp
    · have hL : mtL pc hh a.flat b.flat = true := by
        have h1 := h.1
        cases a <;> cases b <;> simp only [SV.mt, Bool.false_eq_true] at h1
        · simp [SV.flat, mtL, h1]
        · exact h1
      obtain ⟨id, b', q1, q2⟩ := mtL_ins hL p hp
      exact ⟨id, b', List.mem_append_left _ q1, q2⟩
    · obtain ⟨id, b', q1, q2⟩ := mtVs_ins h.2 p hp
      exact ⟨id, b', List.mem_append_right _ q1, q2⟩
theorem lstH_get : ∀ {l : List (Nat × LB)} {id : Nat} {x : Option Ob}, (lstH l).get id = some x → ∃ p ∈ l, p.1 = id ∧ x = some (.lst p.2)
  | [], id, x, hx => by simp [lstH, Hp.get_nil] at hx
  | p :: r, id, x, hx => by
    have hx : Hp.get id ((p.1, some (.lst p.2)) :: lstH r) = some x := hx
    rw [Hp.get_cons] at hx
    split at hx
    · rename_i e; cases hx; exact ⟨p, List.mem_cons_self .., e, rfl⟩
    · obtain ⟨q, h1, h2⟩ := lstH_get hx; exact ⟨q, List.mem_cons_of_mem _ h1, h2⟩
theorem fr_same {nx : Nat} {c : SCl} (h : ∀ k e i hk n ks, c ≠ .blc k e i hk n ks) : c.fr nx = c := by
  cases c <;> first | rfl | exact absurd rfl (h _ _ _ _ _ _)
theorem fr_den {nx : Nat} {αf α' : Nat → Pl} {c : SCl} (hc : c.onlyB = true) (h : ∀ k e i hk n ks, c = .blc k e i hk n ks → αf (nx + k) = α' k) : (c.fr nx).den ρ αf = c.den ρ α' := by
  by_cases hb : ∃ k e i hk n ks, c = .blc k e i hk n ks
  · obtain ⟨k, e, i, hk, n, ks, rfl⟩ := hb
    simp only [SCl.fr, SCl.den, h k e i hk n ks rfl]
  · have hb : ∀ k e i hk n ks, c ≠ .blc k e i hk n ks := fun k e i hk n ks q => hb ⟨k, e, i, hk, n, ks, q⟩
    rw [fr_same hb]
    refine SCl.den_ids fun id q => ?_
    have : c.onlyB = c.id?.isNone := by cases c <;> first | rfl | exact absurd rfl (hb _ _ _ _ _ _)
    rw [this, q] at hc
    cases hc
theorem frs_den {nx : Nat} {αf α' : Nat → Pl} {cs : List SCl} (hc : ∀ c ∈ cs, c.onlyB = true) (h : ∀ k e i hk n ks, SCl.blc k e i hk n ks ∈ cs → αf (nx + k) = α' k) : dens ρ αf (cs.map (SCl.fr nx)) = dens ρ α' cs := by
  simp only [dens, List.map_map]
  exact List.map_congr_left fun c hm => fr_den (hc c hm) fun k e i hk n ks q => h k e i hk n ks (q ▸ hm)
theorem frV_den {nx : Nat} {αf α' : Nat → Pl} {v : SV} (hc : ∀ c ∈ v.flat, c.onlyB = true) (h : ∀ k e i hk n ks, SCl.blc k e i hk n ks ∈ v.flat → αf (nx + k) = α' k) : (v.fr nx).den ρ αf = v.den ρ α' := by
  cases v with
  | one c => exact fr_den (hc c (List.mem_singleton_self _)) fun k e i hk n ks q => h k e i hk n ks (by rw [← q]; exact List.mem_singleton_self _)
  | agg cs => have := frs_den (ρ := ρ) hc h; simp only [dens, SV.flat] at this; simp only [SV.fr, SV.den, this]
  | tup vs =>
    simp only [SV.fr, SV.den, List.map_map]
    congr 2
    refine List.map_congr_left fun s hs => ?_
    have hc' : ∀ c ∈ s.cs, c.onlyB = true := fun c hm => hc c (List.mem_flatMap.2 ⟨s, hs, hm⟩)
    have h' : ∀ k e i hk n ks, SCl.blc k e i hk n ks ∈ s.cs → αf (nx + k) = α' k := fun k e i hk n ks hm => h k e i hk n ks (List.mem_flatMap.2 ⟨s, hs, hm⟩)
    obtain ⟨ag, cs⟩ := s
    have e := frs_den (ρ := ρ) hc' h'
    cases ag with
    | true => simp only [dens] at e; simp only [Function.comp, S1.den, if_true, e]
    | false =>
      cases cs with
      | nil => rfl
      | cons c r =>
        simp only [dens, List.map_cons, List.cons.injEq] at e
        simp only [Function.comp, S1.den, Bool.false_eq_true, if_false, List.map_cons]
        exact e.1
/-- **A call by what is known of it.** -/
theorem con_ret {con : Con} {W0 : World} (hcon : ConOkW P ρ W0 con) {pc : PC} (hpc : pc.Ok ρ) {f : FuncId} {args : List SV} {hp : Hp} {u v : SV} {nx n' : Nat} {dd : Hp} {pc' : PC} (hu : Con.findL pc (hv hp) f args con = some u) (hr : (conE u nx pc).pick ρ = some (v, dd, n', pc')) :
    pc'.Ok ρ ∧ ∀ (α : Nat → Pl) (w : World), Below W0.heap.size W0 w → Obs ρ W0.heap.size α w (hv hp) → Calls P f (args.map (SV.den ρ α)).toArray w (Ret ρ nx n' α (hv hp) w v dd) := by
  obtain ⟨xs, h1, h2, h3, h4⟩ := con_findL hu
  have call : ∀ (α : Nat → Pl) (w : World), Below W0.heap.size W0 w → Obs ρ W0.heap.size α w (hv hp) → Calls P f (args.map (SV.den ρ α)).toArray w (fun e w' => ∃ α', e = .returned (u.den ρ α') ∧ Below w.heap.size w w' ∧ OutOk ρ α' w w' u) := fun α w hw hO => by
    have hal : ∀ p ∈ bdVs xs args, alB (bdVs xs args) α p.1 = α p.2 := fun p hp => by unfold alB; rw [bdG_mem h3 p hp]
    have := hcon f xs u h1 (alB (bdVs xs args) α) w hw ?_
    · rwa [mtVs_den hpc h2 hal] at this
    have get : ∀ id o, hv (lstH (insV xs)) id = some o → ∃ p ∈ insV xs, p.1 = id ∧ o = .lst p.2 := fun id o e => by
      cases hq : (lstH (insV xs)).get id with
      | none => have : hv (lstH (insV xs)) id = none := by unfold hv; rw [over_none hq]
                rw [this] at e; cases e
      | some x =>
        have : hv (lstH (insV xs)) id = x := by unfold hv; rw [over_some hq]
        rw [this] at e
        subst e
        obtain ⟨p, q1, q2, q3⟩ := lstH_get hq
        cases q3
        exact ⟨p, q1, q2, rfl⟩
    refine ⟨fun id o e => ?_, fun id o e ha => ?_, fun i j oi oj hne e1 e2 a1 _ a3 hbk => ?_⟩
    · obtain ⟨p, hp, rfl, rfl⟩ := get id o e
      obtain ⟨id, b, q1, q2, q3⟩ := mtVs_ins h2 p hp
      obtain ⟨g1, g2, g3, g4⟩ := like_den hpc q3
      refine lstAt_eq (b := b) (α := α) (hal _ q1).symm g1.symm g2.symm g3.symm (fun m _ => ?_) (hO.at_ _ _ q2)
      rw [← g4]
      refine valsB_ids (fun m hm => ?_) m
      obtain ⟨s, hs, hm2⟩ := List.mem_flatMap.1 hp
      obtain ⟨e, i, h, n, ks, _, q⟩ := blcs_mem hm2
      simp only [Ob.ids, q] at hm
      cases hm
    · obtain ⟨p, hp, rfl, rfl⟩ := get id o e
      obtain ⟨id, b, q1, q2, q3⟩ := mtVs_ins h2 p hp
      rw [hal _ q1] at ha ⊢
      exact hO.low id _ q2 ha
    · exfalso
      obtain ⟨p, hp, rfl, rfl⟩ := get i oi e1
      obtain ⟨q, hq, rfl, rfl⟩ := get j oj e2
      obtain ⟨id, b, q1, q2, _⟩ := mtVs_ins h2 p hp
      obtain ⟨id', b', r1, r2, _⟩ := mtVs_ins h2 q hq
      rw [hal _ q1] at a1 hbk
      rw [hal _ r1] at a3 hbk
      have hid : id ≠ id' := by
        rintro rfl
        exact hne (pair_snd h4 q1 r1)
      have := hO.inj id id' _ _ hid q2 r2 a1 rfl a3 hbk
      simp only [Ob.sib] at this
      cases this
  unfold conE at hr
  cases hi : u.ids.isEmpty with
  | true =>
    rw [hi] at hr
    have := T.ret_some hr
    cases this
    refine ⟨hpc, fun α w hw hO => (call α w hw hO).mono ?_⟩
    rintro e w' ⟨α', rfl, hb, _⟩
    refine ⟨α, ?_, Upd.nil hb⟩
    rw [SV.den_ids (α := α') (α' := α) fun m hm => by rw [List.isEmpty_iff.1 hi] at hm; cases hm]
  | false =>
    rw [hi] at hr
    simp only [cond_false] at hr
    cases hc : (u.flat.all SCl.onlyB && (ndK (u.blcs.map (·.1)) && u.blcs.all fun p => p.1.blt u.blcs.length)) with
    | false => rw [hc] at hr; exact (T.bad_some hr).elim
    | true =>
      rw [hc] at hr
      have := T.ret_some hr
      cases this
      simp only [Bool.and_eq_true] at hc
      obtain ⟨c1, c2, c3⟩ := hc
      rw [List.all_eq_true] at c1 c3
      have hlt : ∀ p ∈ u.blcs, p.1 < u.blcs.length := fun p hp => by have := c3 p hp; simpa using this
      refine ⟨hpc, fun α w hw hO => (call α w hw hO).mono ?_⟩
      rintro e w' ⟨α', rfl, hb, ho⟩
      have hin : ∀ p ∈ u.blcs, (if nx ≤ nx + p.1 ∧ nx + p.1 < nx + u.blcs.length then α' (nx + p.1 - nx) else α (nx + p.1)) = α' p.1 := fun p hp => by
        have := hlt p hp
        rw [if_pos (by omega), Nat.add_sub_cancel_left]
      have get : ∀ id o, Hp.get id (u.blcs.map fun p => (nx + p.1, some (Ob.lst p.2))) = some (some o) → ∃ p ∈ u.blcs, id = nx + p.1 ∧ o = .lst p.2 := fun id o e => by
        have e : (lstH (u.blcs.map fun p => (nx + p.1, p.2))).get id = some (some o) := by
          unfold lstH
          rw [List.map_map]
          exact e
        obtain ⟨q, h1, h2, h3⟩ := lstH_get e
        obtain ⟨p, hp, rfl⟩ := List.mem_map.1 h1
        cases h3
        exact ⟨p, hp, h2.symm, rfl⟩
      refine ⟨fun m => if nx ≤ m ∧ m < nx + u.blcs.length then α' (m - nx) else α m, ?_, fun id hr => if_neg fun q => hr q, Stays.of_below hb, fun id o e => ?_, fun id o _ e ha => ?_, fun i j oi oj hne e1 e2 a1 _ a3 hbk => ?_⟩
      · rw [frV_den (α' := α') c1 fun k e i hk n ks hm => hin (k, ⟨e, i, hk, n, ks, []⟩) (List.mem_flatMap.2 ⟨_, hm, by simp [SCl.blcs]⟩)]
      · obtain ⟨p, hp, rfl, rfl⟩ := get id o e
        refine lstAt_eq (α := α') (b := p.2) (hin p hp).symm rfl rfl rfl (fun m _ => valsB_ids (fun k hk => ?_) m) (ho.at_ p hp)
        obtain ⟨e, i, h, n, ks, _, q⟩ := blcs_mem hp
        simp only [Ob.ids, q] at hk
        cases hk
      · obtain ⟨p, hp, rfl, rfl⟩ := get id o e
        simp only [hin p hp] at ha ⊢
        exact .inr (ho.nw p hp (by simpa [Ob.adr, Ob.addr, Ob.isL] using ha))
      · exfalso
        obtain ⟨p, hp, rfl, rfl⟩ := get i oi e1
        obtain ⟨q, hq, rfl, rfl⟩ := get j oj e2
        simp only [hin p hp] at a1 hbk
        simp only [hin q hq] at a3 hbk
        exact ho.ap p hp q hq (fun e => hne (by rw [e])) (by simpa [Ob.adr, Ob.addr, Ob.isL] using a1) (by simpa [Ob.adr, Ob.addr, Ob.isL] using a3) hbk
theorem con_find {con : Con} {f : FuncId} {args : List SV} {v : SV} (h : Con.find f args con = some v) : (f, args, v) ∈ con := by
  induction con with
  | nil => simp [Con.find] at h
  | cons x r ih =>
    obtain ⟨g, as, u⟩ := x
    simp only [Con.find] at h
    split at h
    · rename_i hc
      simp only [Bool.and_eq_true] at hc
      cases h
      rw [← Nat.eq_of_beq_eq_true hc.1, ← sameVs_eq hc.2]
      exact List.mem_cons_self ..
    · exact List.mem_cons_of_mem _ (ih h)
theorem tmU_get : ∀ (i k t : Nat) (s : SV), (tmU i k).get t = some s → i ≤ t ∧ (List.replicate k (SV.tup []))[t - i]? = some s
  | i, 0, t, s, h => by simp [tmU, Tm.get] at h
  | i, k + 1, t, s, h => by
    simp only [tmU, Tm.get_cons] at h
    split at h
    · rename_i e; cases h; subst e; simp
    · rename_i e
      obtain ⟨h1, h2⟩ := tmU_get (i + 1) k t s h
      refine ⟨by omega, ?_⟩
      obtain ⟨j, rfl⟩ : ∃ j, t = i + 1 + j := ⟨t - (i + 1), by omega⟩
      rw [show i + 1 + j - (i + 1) = j by omega] at h2
      rw [show i + 1 + j - i = j + 1 by omega, List.replicate_succ, List.getElem?_cons_succ]
      exact h2
theorem tm0_get : ∀ (vs : List SV) (i k t : Nat) (s : SV), (tm0 vs i k).get t = some s → i ≤ t ∧ (vs ++ List.replicate (k - vs.length) (SV.tup []))[t - i]? = some s
  | [], i, k, t, s, h => by
    have := tmU_get i k t s h
    simpa using this
  | v :: vs, i, k, t, s, h => by
    simp only [tm0, Tm.get_cons] at h
    split at h
    · rename_i e; cases h; subst e; simp
    · rename_i e
      obtain ⟨h1, h2⟩ := tm0_get vs (i + 1) (k - 1) t s h
      refine ⟨by omega, ?_⟩
      obtain ⟨j, rfl⟩ : ∃ j, t = i + 1 + j := ⟨t - (i + 1), by omega⟩
      rw [show i + 1 + j - (i + 1) = j by omega] at h2
      rw [show i + 1 + j - i = j + 1 by omega, List.cons_append, List.getElem?_cons_succ, List.length_cons, show k - (vs.length + 1) = k - 1 - vs.length by omega]
      exact h2
def resOf (tmps : Array Value) : ResultVar → Sem Value
  | .tmp t => pure (tmps.getD t undef)
  | .cell x t => do loadVar t (← asAddr (tmps.getD x undef))
section res
variable {α : Nat → Pl} {nt : Nat} {mk : List Nat} {tm : Tm} {a : Act} {w : World} {h : Vw}
theorem resV_run (ra : RA ρ α nt tm mk a) (hb : ∀ id b, h id = some (.blk b) → blkAt ρ α w id b) {r : ResultVar} {v : SV} (hv : resV P tm h r = some v) :
    (resOf a.tmps r).run P w = .ok (v.den ρ α) w := by
  cases r with
  | tmp t =>
    have := ra.get t v hv
    simp [resOf, Array.getD_eq_getD_getElem?, this]
  | cell x t =>
    simp only [resV] at hv
    split at hv
    · rename_i id off hx
      split at hv
      · rename_i b hbb
        have h1 := ra.get x _ hx
        have h2 : a.tmps.getD x undef = .pointer (some ⟨(α id).blk, off, none⟩) := by simp [Array.getD_eq_getD_getElem?, h1, SV.den, SCl.den]
        simp only [resOf, h2, asAddr, Sem.run_bind, Sem.run_pure, Result.andThen_ok]
        exact loadVar_run (hb id b hbb) hv
      · cases hv
    · cases hv
theorem resL_run (ra : RA ρ α nt tm mk a) (hb : ∀ id b, h id = some (.blk b) → blkAt ρ α w id b) : ∀ {rs : List ResultVar} {vs : List SV}, resL P tm h rs = some vs →
    (rs.mapM (resOf a.tmps)).run P w = Result.ok (vs.map (SV.den ρ α)) w
  | [], vs, h => by simp [resL] at h; subst h; rfl
  | r :: rs, vs, h => by
    simp only [resL] at h
    split at h
    · rename_i v vs' h1 h2
      cases h
      rw [List.mapM_cons, Sem.run_bind, resV_run ra hb h1, Result.andThen_ok, Sem.run_bind, resL_run ra hb h2]
      rfl
    · cases h
theorem results_eq (fn : Func) (tmps : Array Value) : results fn tmps = (do let vs ← fn.results.mapM (resOf tmps); pure (if h : vs.size = 1 then vs[0] else .tuple vs)) := by
  unfold results
  congr 1
theorem resE_run (ra : RA ρ α nt tm mk a) (hb : ∀ id b, h id = some (.blk b) → blkAt ρ α w id b) {fn : Func} {v : SV} (hr : resE P fn tm h = some v) : (results fn a.tmps).run P w = .ok (v.den ρ α) w := by
  unfold resE at hr
  have hrun : ∀ {vs : List SV}, resL P tm h fn.results.toList = some vs → (results fn a.tmps).run P w = .ok (if h : (vs.map (SV.den ρ α)).toArray.size = 1 then (vs.map (SV.den ρ α)).toArray[0] else .tuple (vs.map (SV.den ρ α)).toArray) w := by
    intro vs hvs
    have := resL_run ra hb hvs
    rw [results_eq]
    rw [Array.mapM_eq_mapM_toList, Sem.run_bind, Sem.run_map]
    rw [this]
    rfl
  split at hr
  · rename_i v' hv
    cases hr
    rw [hrun hv]
    rfl
  · rename_i vs hne hv
    rw [Option.map_eq_some_iff] at hr
    obtain ⟨ss, hss, rfl⟩ := hr
    rw [hrun hv]
    have hlen : (vs.map (SV.den ρ α)).toArray.size ≠ 1 := by
      intro he
      simp at he
      match vs, he with
      | [x], _ => exact hne x rfl
    rw [dif_neg hlen]
    simp only [SV.den, s1L_den hss]
  · cases hr
end res
/-! ### What is known stays known -/
theorem reg_pc {call : CallF} {W0 : World} (hcall : CallOk P ρ W0 call) {h0 : Vw} {nt : Nat} {ops : Array Oper} {draw : Bool} {s s' : St} (hr : (regE P call h0 nt ops draw s).pick ρ = some s') (hpc : s.pc.Ok ρ) : s'.pc.Ok ρ := by
  unfold regE at hr
  split at hr
  case isFalse => exact (T.bad_some hr).elim
  obtain ⟨⟨pc, tm, d, n, rs⟩, h1, h2⟩ := T.bind_some hr
  simp only at h2
  split at h2
  case isFalse => exact (T.bad_some h2).elim
  have := T.ret_some h2
  subst this
  obtain ⟨_, _, _, _, _, _, _, _, _, e, _⟩ := seq_canon hcall ops.toList 0 s.pc s.tm s.d s.next [] h1 hpc
  exact e
theorem exec_pc {rc : RunF} {W0 : World} {B : EnvS → Prop} (hrc : ∀ lps ρ, Fam B lps ρ → CallOk P ρ W0 (rc lps)) {nt : Nat} {rd : Option Nat} {lps : List LAnn} (hF : Fam B lps ρ) : ∀ (n : Nat) (h0 : Vw) (c : Code) (s : St) {x : SXt} {s' : St}, (exec P rc nt rd n lps h0 c s).pick ρ = some (x, s') → s.pc.Ok ρ → s'.pc.Ok ρ
  | 0, h0, c, s, x, s', hr, _ => (T.bad_some hr).elim
  | n + 1, h0, c, s, x, s', hr, hpc => by
    have hcall := hrc lps ρ hF
    cases c with
    | skip => have := T.ret_some hr; cases this; exact hpc
    | label l => have := T.ret_some hr; cases this; exact hpc
    | exit id => have := T.ret_some hr; cases this; exact hpc
    | ret => have := T.ret_some hr; cases this; exact hpc
    | region id ops draw =>
      rw [exec_succ] at hr
      simp only [stepX] at hr
      obtain ⟨s1, h1, h2⟩ := T.bind_some hr
      have := T.ret_some h2
      cases this
      exact reg_pc hcall h1 hpc
    | seq c d =>
      rw [exec_succ] at hr
      simp only [stepX] at hr
      obtain ⟨⟨y, s1⟩, h1, h2⟩ := T.bind_some hr
      have hp := exec_pc hrc hF n h0 c s h1 hpc
      cases y with
      | norm => exact exec_pc hrc hF n h0 d s1 h2 hp
      | ex id => have := T.ret_some h2; cases this; exact hp
      | ret => have := T.ret_some h2; cases this; exact hp
    | cond b c d =>
      rw [exec_succ] at hr
      simp only [stepX] at hr
      split at hr
      · obtain ⟨pc', h1, h2⟩ := T.cond_some hpc hr
        exact exec_pc hrc hF n h0 _ _ h2 h1
      · exact (T.bad_some hr).elim
    | block id body =>
      rw [exec_succ] at hr
      simp only [stepX] at hr
      obtain ⟨⟨y, s1⟩, h1, h2⟩ := T.bind_some hr
      have hp := exec_pc hrc hF n h0 body s h1 hpc
      cases y with
      | norm => have := T.ret_some h2; cases this; exact hp
      | ret => have := T.ret_some h2; cases this; exact hp
      | ex j =>
        simp only at h2
        split at h2 <;> (have := T.ret_some h2; cases this; exact hp)
    | loop body =>
      rw [exec_succ] at hr
      simp only [stepX] at hr
      split at hr
      · obtain ⟨⟨y, s1⟩, h1, h2⟩ := T.bind_some hr
        have hp := exec_pc hrc hF n h0 body s h1 hpc
        cases y with
        | norm => exact exec_pc hrc hF n h0 _ s1 h2 hp
        | ex id => have := T.ret_some h2; cases this; exact hp
        | ret => have := T.ret_some h2; cases this; exact hp
      · rename_i A tl hfind
        have hfind' : LAnn.find (keyC body) (fun A => A.startOk rd (s.d.over h0) s) lps = some (A, tl) := by
          cases lps with
          | nil => cases hfind
          | cons _ _ => exact hfind
        cases hall : (A.pcR.all fun pcr => (exec P rc nt rd n tl (Hp.over (A.view (s.d.over h0)) fun _ => none) body ⟨pcr, A.tms, [], A.nx, []⟩).all (A.backOk (Hp.over (A.view (s.d.over h0)) fun _ => none))) with
        | false => rw [hall] at hr; exact (T.bad_some hr).elim
        | true =>
          · rw [hall] at hr
            simp only [cond_true] at hr
            obtain ⟨⟨y, s1⟩, h1, h2⟩ := T.bind_some hr
            have hp := exec_pc hrc hF n h0 body _ h1 ((Fam.find hfind' hF).2.2.2.1.1.append hpc)
            cases y with
            | norm => exact (T.bad_some h2).elim
            | ex id => have := T.ret_some h2; cases this; exact hp
            | ret => have := T.ret_some h2; cases this; exact hp
    | rangeFunc f ps asg body =>
      rw [exec_succ] at hr
      simp only [stepX, rangeE] at hr
      split at hr
      · exact (T.bad_some hr).elim
      split at hr
      · exact (T.bad_some hr).elim
      split at hr
      · split at hr
        · split at hr
          · split at hr
            · obtain ⟨⟨v, fd, n', pc'⟩, h1, h2⟩ := T.bind_some hr
              have hp := (hcall.2 _ _ _ _ _ _ _ _ _ hpc h1).1
              simp only at h2
              split at h2
              · split at h2
                · split at h2
                  · exact (T.bad_some h2).elim
                  · split at h2
                    · have := T.ret_some h2; cases this; exact hp
                    · have := T.ret_some h2; cases this; exact hp
                    · have := T.ret_some h2; cases this; exact hp
                    · exact (T.bad_some h2).elim
                · exact (T.bad_some h2).elim
              · exact (T.bad_some h2).elim
            · exact (T.bad_some hr).elim
          · exact (T.bad_some hr).elim
        · exact (T.bad_some hr).elim
      · exact (T.bad_some hr).elim
    | scope _ => exact (T.bad_some hr).elim
    | goto _ => exact (T.bad_some hr).elim
    | refuse _ => exact (T.bad_some hr).elim
/-! ### The end of a call -/
theorem one_get {id i : Nat} {x : Option Ob} : Hp.get i [(id, x)] = if id = i then some x else none := by
  rw [Hp.get_cons]
  split <;> rfl
theorem over_one {id : Nat} {x : Option Ob} {d : Hp} {h : Vw} (i : Nat) : (Hp.app [(id, x)] d).over h i = if id = i then x else d.over h i := by
  rw [app_over]
  by_cases e : id = i
  · rw [if_pos e]; exact over_some (by rw [one_get, if_pos e])
  · rw [if_neg e]; exact over_none (by rw [one_get, if_neg e])
theorem mksOk_congr {h h' : Vw} : ∀ {l : List Nat}, (∀ m ∈ l, h' m = h m) → mksOk h' l = mksOk h l
  | [], _ => rfl
  | m :: r, hh => by
    simp only [mksOk, hh m (List.mem_cons_self ..), mksOk_congr fun x hx => hh x (List.mem_cons_of_mem _ hx)]
theorem mks_parts {h : Vw} {m : Nat} {r : List Nat} (hk : mksOk h (m :: r) = true) : m ∉ r ∧ h m = some .dfr ∧ mksOk h r = true := by
  simp only [mksOk, Bool.and_eq_true, Bool.not_eq_true'] at hk
  obtain ⟨⟨h1, h2⟩, h3⟩ := hk
  refine ⟨fun hm => ?_, ?_, h3⟩
  · have : r.any (·.beq m) = true := List.any_eq_true.2 ⟨m, hm, Nat.beq_refl m⟩
    rw [this] at h1
    cases h1
  · split at h2
    · assumption
    · cases h2
theorem drop_blk {h0 : Vw} : ∀ {l : List Nat} {d : Hp}, mksOk (d.over h0) l = true → ∀ id b, d.over h0 id = some (.blk b) → (dropMk l d).over h0 id = some (.blk b)
  | [], d, _, id, b, hb => hb
  | m :: r, d, hk, id, b, hb => by
    obtain ⟨k1, k2, k3⟩ := mks_parts hk
    have hne : m ≠ id := by rintro rfl; rw [k2] at hb; cases hb
    refine drop_blk (d := Hp.app [(m, none)] d) ?_ id b ?_
    · rw [mksOk_congr fun x hx => ?_]
      · exact k3
      · rw [over_one, if_neg (by rintro rfl; exact k1 hx)]
    · rw [over_one, if_neg hne]; exact hb
theorem marks_leave {W0 W : World} {α0 : Nat → Pl} {h0 : Vw} {nx n : Nat} (cx : Cx ρ W0 α0 h0 W nx) {fn : Func} {tmps : Array Value} {R : Ending → World → Prop} {α : Nat → Pl} (hn : nx ≤ n) : ∀ (l : List Nat) (d : Hp) (w : World), mksOk (d.over h0) l = true → Inv ρ α0 h0 W (Rg nx n) α w d → DLow n d →
    (∀ w', Inv ρ α0 h0 W (Rg nx n) α w' (dropMk l d) → DLow n (dropMk l d) → ∃ v, (results fn tmps).run P w' = .ok v w' ∧ R (.returned v) w') →
    LeavesInM (FW none) 0 P fn tmps R (l.map fun id => { target := .collected (α id).blk, args := #[] }) .returning w
  | [], d, w, _, hI, hl, hfin => hfin w hI hl
  | m :: r, d, w, hk, hI, hl, hfin => by
    obtain ⟨k1, k2, k3⟩ := mks_parts hk
    have hobs := inv_obs cx (fun _ q => q.1) hI
    have hat : w.heap[(α m).blk]? = some (.deferred (some [])) := hobs.at_ m _ k2
    obtain ⟨UD, DD⟩ := eff_obj (ρ := ρ) (n := n) (x := none) (ob := .deferred none) k2 rfl rfl rfl (fun o' q => by cases q) (fun o' q => by cases q) (α := α) (w := w)
    have I1 := inv_same cx hI hn UD DD
    have hm : m < n := by
      rcases hq : d.get m with _ | x
      · rw [over_none hq] at k2; exact Nat.lt_of_lt_of_le (cx.low m _ k2).1 hn
      · exact (hl m x hq).1
    refine ⟨by simp, .inl ⟨(α m).blk, _, rfl, run_takeDeferred hat, ?_⟩⟩
    refine marks_leave cx hn r (Hp.app [(m, none)] d) _ ?_ I1 ((DLow.one hm fun o q => by cases q).app hl) hfin
    rw [mksOk_congr fun x hx => ?_]
    · exact k3
    · rw [over_one, if_neg (by rintro rfl; exact k1 hx)]
theorem filter_get (p : Nat → Bool) : ∀ (d : Hp) (i : Nat), Hp.get i (d.filter fun q => p q.1) = if p i = true then d.get i else none
  | [], i => by simp [Hp.get_nil]
  | (j, b) :: d, i => by
    rw [List.filter_cons]
    by_cases hj : p j = true
    · simp only [hj, if_true, Hp.get_cons, filter_get p d i]
      by_cases e : j = i
      · subst e; simp [hj]
      · simp [e]
    · have hjf : p j = false := by simpa using hj
      simp only [hjf, Bool.false_eq_true, if_false, Hp.get_cons, filter_get p d i]
      by_cases e : j = i
      · subst e; simp [hjf]
      · simp [e]
theorem gc_upd {nx n : Nat} {v : SV} {d d' : Hp} {α α' : Nat → Pl} {h : Vw} {w w' : World} (hg : gcE nx v d = some d') (hl : DLow n d) (U : Upd (Rg nx n) ρ α α' h w w' d) : Upd (Rg nx n) ρ α α' h w w' d' := by
  unfold gcE at hg
  split at hg
  · rename_i bm _ _
    cases hg
    refine U.less (fun i x e => ?_) fun i hi => ?_
    · rw [filter_get (fun k => k.blt nx || bm.testBit k)] at e
      split at e
      · exact e
      · cases e
    · rw [filter_get (fun k => k.blt nx || bm.testBit k)]
      split
      · rfl
      · rename_i hp
        cases hd : d.get i with
        | none => rfl
        | some x =>
          have := (hl i x hd).1
          have hlt : i < nx := by
            rcases Nat.lt_or_ge i nx with q | q
            · exact q
            · exact absurd ⟨q, this⟩ hi
          simp [hlt] at hp
  · cases hg
theorem tm0_ids : ∀ (vs : List SV) (i k : Nat), ∀ m ∈ (tm0 vs i k).ids, ∃ s ∈ vs, m ∈ s.ids
  | [], i, k, m, hm => by
    exfalso
    have : ∀ (k i : Nat), (tmU i k).ids = [] := by
      intro k
      induction k with
      | zero => intro i; rfl
      | succ k ih => intro i; simp [tmU, Tm.ids, ih, SV.ids]
    rw [tm0, this] at hm
    cases hm
  | v :: vs, i, k, m, hm => by
    simp only [tm0, Tm.ids, List.mem_append] at hm
    rcases hm with hm | hm
    · exact ⟨v, List.mem_cons_self .., hm⟩
    · obtain ⟨s, h1, h2⟩ := tm0_ids vs (i + 1) (k - 1) m hm
      exact ⟨s, List.mem_cons_of_mem _ h1, h2⟩
end
end Go.Proofs.Ytmpadjlplgajcaa
