/- The executor's laws: loops whose rounds are known: numbers put in place of the round's number; what is equal by what is known. -/
import Derived.Test.YtmpadjlplgajcaaE4J
namespace Go.Proofs.Ytmpadjlplgajcaa
open Go.RowKit
section
variable {ρ : EnvS} {α α' : Nat → Pl}
theorem upd_self (i : Nat) : ρ.upd i (ρ.v i) = ρ := by
  unfold EnvS.upd
  have : (fun k => if k = i then ρ.v i else ρ.v k) = ρ.v := by funext k; split <;> simp_all
  rw [this]
theorem upd_upd (i : Nat) (j k : Int) : (ρ.upd i j).upd i k = ρ.upd i k := by
  unfold EnvS.upd
  simp only
  congr 1
  funext m
  split <;> rfl
theorem upd_at (i : Nat) (j : Int) : (ρ.upd i j).v i = j := by simp [EnvS.upd]
theorem IE.sb_den (i : Nat) (e : IE) (a : IE) : (a.sb i e).den ρ = a.den (ρ.upd i (e.den ρ)) := by
  induction a with
  | «at» k =>
    by_cases h : k = i
    · subst h; simp [IE.sb, IE.den, EnvS.upd]
    · have : k.beq i = false := by
        cases hq : k.beq i with
        | false => rfl
        | true => exact absurd (Nat.eq_of_beq_eq_true hq) h
      simp [IE.sb, this, IE.den, EnvS.upd, h]
  | lit n => rfl
  | add a b iha ihb => simp only [IE.sb, IE.den, iha, ihb]
  | sub a b iha ihb => simp only [IE.sb, IE.den, iha, ihb]
  | mul a b iha ihb => simp only [IE.sb, IE.den, iha, ihb]
  | quo a b iha ihb => simp only [IE.sb, IE.den, iha, ihb]
  | rem a b iha ihb => simp only [IE.sb, IE.den, iha, ihb]
  | wr k a iha => simp only [IE.sb, IE.den, iha]
  | mn a b iha ihb => simp only [IE.sb, IE.den, iha, ihb]
  | mx a b iha ihb => simp only [IE.sb, IE.den, iha, ihb]
  | ap f a b iha ihb => simp only [IE.sb, IE.den, iha, ihb]; rfl
  | fx f a b iha ihb => simp only [IE.sb, IE.den, iha, ihb]
theorem BE.sb_den (i : Nat) (e : IE) (a : BE) : (a.sb i e).den ρ = a.den (ρ.upd i (e.den ρ)) := by
  induction a with
  | lit n => rfl
  | lt a b => simp only [BE.sb, BE.den, IE.sb_den]
  | le a b => simp only [BE.sb, BE.den, IE.sb_den]
  | eq a b => simp only [BE.sb, BE.den, IE.sb_den]
  | not a iha => simp only [BE.sb, BE.den, iha]
  | and a b iha ihb => simp only [BE.sb, BE.den, iha, ihb]
theorem nbeq {k i : Nat} (h : (!k.beq i) = true) : k ≠ i := by
  rintro rfl
  rw [Nat.beq_refl] at h
  cases h
theorem SCl.sb_den {i : Nat} {e : IE} {c : SCl} (h : c.okI i = true) : (c.sb i e).den ρ α = c.den (ρ.upd i (e.den ρ)) α := by
  cases c with
  | int k a => simp only [SCl.sb, SCl.den, IE.sb_den]
  | bool b => simp only [SCl.sb, SCl.den, BE.sb_den]
  | ept L j c => simp only [SCl.sb, SCl.den, IE.sb_den]; rfl
  | opq f j c => simp only [SCl.sb, SCl.den, IE.sb_den]; rfl
  | str a => simp only [SCl.sb, SCl.den, IE.sb_den]
  | bls id n => simp only [SCl.sb, SCl.den, IE.sb_den]
  | bpt id z j c => simp only [SCl.sb, SCl.den, IE.sb_den]
  | blc k el f hk n ks => simp only [SCl.sb, SCl.den, IE.sb_den]
  | ssl L =>
    have : L.n ≠ i := nbeq h
    simp [SCl.sb, SCl.den, EnvS.upd, this]
  | _ => rfl
theorem sbs_den {i : Nat} {e : IE} {cs : List SCl} (h : ∀ c ∈ cs, c.okI i = true) : dens ρ α (cs.map (SCl.sb i e)) = dens (ρ.upd i (e.den ρ)) α cs := by
  simp only [dens, List.map_map]
  exact List.map_congr_left fun c hc => SCl.sb_den (h c hc)
theorem S1.sb_den {i : Nat} {e : IE} {s : S1} (h : s.cs.all (SCl.okI i) = true) : (s.sb i e).den ρ α = s.den (ρ.upd i (e.den ρ)) α := by
  obtain ⟨ag, cs⟩ := s
  rw [List.all_eq_true] at h
  cases ag with
  | true => simp only [S1.sb, S1.den, if_true]; have := sbs_den (ρ := ρ) (α := α) (e := e) h; simp only [dens] at this; rw [this]
  | false =>
    cases cs with
    | nil => rfl
    | cons c r => simp only [S1.sb, S1.den, Bool.false_eq_true, if_false, List.map_cons]; exact SCl.sb_den (h c (List.mem_cons_self ..))
theorem SV.sb_den {i : Nat} {e : IE} {v : SV} (h : v.okI i = true) : (v.sb i e).den ρ α = v.den (ρ.upd i (e.den ρ)) α := by
  cases v with
  | one c => exact SCl.sb_den h
  | agg cs => simp only [SV.okI, List.all_eq_true] at h; have := sbs_den (ρ := ρ) (α := α) (e := e) h; simp only [dens] at this; simp only [SV.sb, SV.den, this]
  | tup vs =>
    simp only [SV.okI] at h
    rw [List.all_eq_true] at h
    simp only [SV.sb, SV.den, List.map_map]
    congr 2
    exact List.map_congr_left fun s hs => S1.sb_den (h s hs)
theorem SCl.sb_id {i : Nat} {e : IE} (c : SCl) : (c.sb i e).id? = c.id? := by cases c <;> rfl
theorem sbs_ids {i : Nat} {e : IE} (cs : List SCl) : idsL (cs.map (SCl.sb i e)) = idsL cs := by
  simp only [idsL, List.filterMap_map]
  congr 1
  funext c
  exact SCl.sb_id c
theorem SV.sb_ids {i : Nat} {e : IE} (v : SV) : (v.sb i e).ids = v.ids := by
  cases v with
  | one c => exact sbs_ids [c]
  | agg cs => exact sbs_ids cs
  | tup vs =>
    simp only [SV.sb, SV.ids, List.flatMap_map]
    congr 1
    funext s
    exact sbs_ids s.cs
theorem Tm.sb_get {i : Nat} {e : IE} (t : Nat) : ∀ tm : Tm, (tm.sb i e).get t = (tm.get t).map (SV.sb i e)
  | [] => rfl
  | (u, s) :: r => by
    show Tm.get t ((u, s.sb i e) :: Tm.sb i e r) = _
    rw [Tm.get_cons, Tm.get_cons]
    split
    · rfl
    · exact Tm.sb_get t r
theorem Tm.sb_ids {i : Nat} {e : IE} : ∀ tm : Tm, (tm.sb i e).ids = tm.ids
  | [] => rfl
  | (u, s) :: r => by
    show (s.sb i e).ids ++ Tm.ids (Tm.sb i e r) = _
    rw [SV.sb_ids, Tm.sb_ids r]
    rfl
theorem Tm.get_mem {t : Nat} : ∀ {tm : Tm} {s : SV}, tm.get t = some s → (t, s) ∈ tm
  | [], s, h => by simp [Tm.get_nil] at h
  | (u, x) :: r, s, h => by
    rw [Tm.get_cons] at h
    split at h
    · rename_i e; cases h; subst e; exact List.mem_cons_self ..
    · exact List.mem_cons_of_mem _ (Tm.get_mem h)
/-! Where the number does not stand. -/
theorem IE.noI_den {i : Nat} {j : Int} {a : IE} (h : a.noI i = true) : a.den (ρ.upd i j) = a.den ρ := by
  induction a with
  | «at» k => have := nbeq h; simp [IE.den, EnvS.upd, this]
  | lit n => rfl
  | wr k a iha => simp only [IE.noI] at h; simp only [IE.den, iha h]
  | ap f a b iha ihb => simp only [IE.noI, Bool.and_eq_true] at h; simp only [IE.den, iha h.1, ihb h.2]; rfl
  | fx f a b iha ihb => simp only [IE.noI, Bool.and_eq_true] at h; simp only [IE.den, iha h.1, ihb h.2]
  | _ a b iha ihb => simp only [IE.noI, Bool.and_eq_true] at h; simp only [IE.den, iha h.1, ihb h.2]
theorem BE.noI_den {i : Nat} {j : Int} {a : BE} (h : a.noI i = true) : a.den (ρ.upd i j) = a.den ρ := by
  induction a with
  | lit n => rfl
  | not a iha => simp only [BE.noI] at h; simp only [BE.den, iha h]
  | and a b iha ihb => simp only [BE.noI, Bool.and_eq_true] at h; simp only [BE.den, iha h.1, ihb h.2]
  | _ a b => simp only [BE.noI, Bool.and_eq_true] at h; simp only [BE.den, IE.noI_den h.1, IE.noI_den h.2]
theorem SCl.noI_den {i : Nat} {j : Int} {c : SCl} (h : c.noI i = true) : c.den (ρ.upd i j) α = c.den ρ α := by
  cases c with
  | int k a => simp only [SCl.noI] at h; simp only [SCl.den, IE.noI_den h]
  | bool b => simp only [SCl.noI] at h; simp only [SCl.den, BE.noI_den h]
  | ept L j c => simp only [SCl.noI] at h; simp only [SCl.den, IE.noI_den h]; rfl
  | opq f j c => simp only [SCl.noI] at h; simp only [SCl.den, IE.noI_den h]; rfl
  | str a => simp only [SCl.noI] at h; simp only [SCl.den, IE.noI_den h]
  | bls id n => simp only [SCl.noI] at h; simp only [SCl.den, IE.noI_den h]
  | bpt id z j c => simp only [SCl.noI] at h; simp only [SCl.den, IE.noI_den h]
  | blc k el f hk n ks => simp only [SCl.noI] at h; simp only [SCl.den, IE.noI_den h]
  | ssl L => have : L.n ≠ i := nbeq h; simp [SCl.den, EnvS.upd, this]
  | _ => rfl
theorem noIs_den {i : Nat} {j : Int} {cs : List SCl} (h : cs.all (SCl.noI i) = true) : dens (ρ.upd i j) α cs = dens ρ α cs := by
  rw [List.all_eq_true] at h
  exact List.map_congr_left fun c hc => SCl.noI_den (h c hc)
theorem S1.noI_den {i : Nat} {j : Int} {s : S1} (h : s.cs.all (SCl.noI i) = true) : s.den (ρ.upd i j) α = s.den ρ α := by
  obtain ⟨ag, cs⟩ := s
  cases ag with
  | true => simp only [S1.den, if_true]; have := noIs_den (ρ := ρ) (α := α) (j := j) h; simp only [dens] at this; rw [this]
  | false =>
    cases cs with
    | nil => rfl
    | cons c r => rw [List.all_eq_true] at h; simp only [S1.den, Bool.false_eq_true, if_false]; exact SCl.noI_den (h c (List.mem_cons_self ..))
theorem SV.noI_den {i : Nat} {j : Int} {v : SV} (h : v.noI i = true) : v.den (ρ.upd i j) α = v.den ρ α := by
  cases v with
  | one c => exact SCl.noI_den h
  | agg cs => have := noIs_den (ρ := ρ) (α := α) (j := j) h; simp only [dens] at this; simp only [SV.den, this]
  | tup vs =>
    simp only [SV.noI] at h
    rw [List.all_eq_true] at h
    simp only [SV.den]
    congr 2
    exact List.map_congr_left fun s hs => S1.noI_den (h s hs)
theorem upV_noI {i : Nat} {j : Int} {base base' : List Value} (hb : base = base') (m : Nat) : ∀ {ups : List (IE × List SCl)}, (ups.all fun p => p.1.noI i && p.2.all (SCl.noI i)) = true → upV ρ α base m ups = upV (ρ.upd i j) α base' m ups
  | [], _ => hb
  | (e, vs) :: r, h => by
    simp only [List.all_cons, Bool.and_eq_true] at h
    simp only [upV]
    rw [IE.noI_den h.1.1, noIs_den h.1.2, upV_noI hb m h.2]
theorem lb_noI {i : Nat} {j : Int} {b : LB} (h : (Ob.lst b).noI i = true) : b.n.den (ρ.upd i j) = b.n.den ρ ∧ ∀ m : Nat, valsB ρ α b m = valsB (ρ.upd i j) α b m := by
  simp only [Ob.noI, Bool.and_eq_true] at h
  obtain ⟨h1, h2, h3⟩ := h
  refine ⟨IE.noI_den h2, fun m => ?_⟩
  unfold valsB LB.base
  have hk : b.k.map (IE.den ρ) = b.k.map (IE.den (ρ.upd i j)) := ?_
  · exact upV_noI (cellsB_k (ρ := ρ) (ρ' := ρ.upd i j) (α := α) (α' := α) rfl rfl hk rfl b.ks 0) m h3
  revert h1
  cases b.k with
  | none => intro _; rfl
  | some k => intro h1; simp only [Option.map_some, IE.noI_den h1]
theorem Ob.noI_at {i : Nat} {j : Int} {w : World} {id : Nat} {o : Ob} (h : o.noI i = true) (ha : obAt ρ α w id o) : obAt (ρ.upd i j) α w id o := by
  cases o with
  | blk b => obtain ⟨tl, h1, h2, h3⟩ := ha; exact ⟨tl, h1, h2, by rw [noIs_den h]; exact h3⟩
  | lst b =>
    obtain ⟨h1, h2⟩ := lb_noI (ρ := ρ) (α := α) (j := j) h
    exact lstAt_eq (ρ := ρ) (ρ' := ρ.upd i j) rfl rfl rfl h1.symm (fun m _ => h2 m) ha
  | clo g caps =>
    refine ⟨ha.1, ha.2.trans ?_⟩
    simp only [Ob.noI] at h
    rw [List.all_eq_true] at h
    congr 1
    exact List.map_congr_left fun s hs => (S1.noI_den (h s hs)).symm
  | dfr => exact ha
  | yld y =>
    obtain ⟨fn, tmps, h1, h2, h3, h4, h5⟩ := ha
    simp only [Ob.noI] at h
    rw [List.all_eq_true] at h
    exact ⟨fn, tmps, h1, fun t s hs => by rw [SV.noI_den (h _ (Tm.get_mem hs))]; exact h2 t s hs, h3, h4, h5⟩
/-! Equal, by what is known. -/
theorem S1.eqP_den {pc : PC} (hpc : pc.Ok ρ) {a b : S1} (h : a.eqP pc b = true) : a.den ρ α = b.den ρ α ∧ idsL a.cs = idsL b.cs := by
  obtain ⟨x, l⟩ := a; obtain ⟨y, m⟩ := b
  simp only [S1.eqP, Bool.and_eq_true] at h
  obtain ⟨h1, h2⟩ := h
  have h1 := eq_of_beq h1
  subst h1
  refine ⟨?_, (eqPL_den (α := α) hpc h2).2⟩
  have e := (eqPL_den (α := α) hpc h2).1
  cases x with
  | true => simp only [S1.den, if_true]; simp only [dens] at e; rw [e]
  | false =>
    cases l <;> cases m <;> simp only [eqPL, Bool.false_eq_true, Bool.and_eq_true] at h2
    · rfl
    · simp only [S1.den, Bool.false_eq_true, if_false]; exact (SCl.eqP_den hpc h2.1).1
theorem eqPS_den {pc : PC} (hpc : pc.Ok ρ) : ∀ {a b : List S1}, eqPS pc a b = true → a.map (S1.den ρ α) = b.map (S1.den ρ α) ∧ (a.flatMap fun s => idsL s.cs) = b.flatMap fun s => idsL s.cs
  | [], [], _ => ⟨rfl, rfl⟩
  | x :: r, y :: s, h => by
    simp only [eqPS, Bool.and_eq_true] at h
    obtain ⟨h1, h2⟩ := S1.eqP_den (α := α) hpc h.1
    obtain ⟨h3, h4⟩ := eqPS_den hpc h.2
    exact ⟨by rw [List.map_cons, List.map_cons, h1, h3], by rw [List.flatMap_cons, List.flatMap_cons, h2, h4]⟩
  | [], _ :: _, h => by cases h
  | _ :: _, [], h => by cases h
theorem SV.eqP_den {pc : PC} (hpc : pc.Ok ρ) {a b : SV} (h : a.eqP pc b = true) : a.den ρ α = b.den ρ α ∧ a.ids = b.ids := by
  cases a <;> cases b <;> simp only [SV.eqP, Bool.false_eq_true] at h
  case one.one => obtain ⟨h1, h2⟩ := SCl.eqP_den (α := α) hpc h; exact ⟨h1, by simp only [SV.ids, idsL, List.filterMap_cons, List.filterMap_nil, h2]⟩
  case agg.agg => obtain ⟨h1, h2⟩ := eqPL_den (α := α) hpc h; simp only [dens] at h1; exact ⟨by simp only [SV.den, h1], h2⟩
  case tup.tup => obtain ⟨h1, h2⟩ := eqPS_den (α := α) hpc h; exact ⟨by simp only [SV.den, h1], h2⟩
theorem T.all_pick {β : Type} {p : β → Bool} {t : T β} (h : t.all p = true) : ∃ a, t.pick ρ = some a ∧ p a = true := by
  induction t with
  | ret a => exact ⟨a, rfl, h⟩
  | br c t e iht ihe =>
    simp only [T.all, Bool.and_eq_true] at h
    simp only [T.pick]
    split
    · exact iht h.1
    · exact ihe h.2
  | bad n => cases h
end
/-! At a loop's head. -/
def headIn (F : Fence) (n : Nat) (P : Program) (c : Code) (Q : Exit → Act → World → Prop) (a : Act) (w : World) : Prop :=
  ∀ (b : Frame) (k : List Item) (cs : List Frame), b.roundOf = F.round → F.fn b.fn → F.room (cs.length + 1 + n) →
    ∃ e a' w', Q e a' w' ∧ ArrivesIn (Machine.fenced P F) P (lone (b.atR a (.code c :: .inLoop c :: k)) cs w) b k cs e a' w'
theorem head_loop {F : Fence} {n : Nat} {P : Program} {c : Code} {Q : Exit → Act → World → Prop} {a : Act} {w : World} (h : headIn F n P c Q a w) : (Code.loop c).wpIn F n P Q a w := fun b k cs hro hb hr =>
  let ⟨e, a', w', hq, harr⟩ := h b k cs hro hb hr
  ⟨e, a', w', hq, .of_steps (.one (fenced_calm hb hr rfl) stepR_loop) harr⟩
theorem head_round {F : Fence} {n : Nat} {P : Program} {c : Code} {Q : Exit → Act → World → Prop} {a : Act} {w : World} (h : c.wpIn F n P (Exit.then (headIn F n P c Q) Q) a w) : headIn F n P c Q a w := by
  intro b k cs hro hb hr
  obtain ⟨e, a₁, w₁, hq, harr⟩ := h b (.inLoop c :: k) cs hro hb hr
  cases e with
  | normal =>
    obtain ⟨e₂, a₂, w₂, hq₂, harr₂⟩ := hq b k cs hro hb hr
    exact ⟨e₂, a₂, w₂, hq₂, .of_steps (StepsIn.trans harr (.one (fenced_calm hb hr rfl) stepR_inLoop)) harr₂⟩
  | exit id => exact ⟨_, a₁, w₁, hq, .pass (x := .inLoop c) rfl (fun _ _ => .inl (by simp)) harr⟩
  | goto l => exact ⟨_, a₁, w₁, hq, .pass (x := .inLoop c) rfl (fun _ _ => .inl (by simp)) harr⟩
  | ret => exact ⟨_, a₁, w₁, hq, .pass (x := .inLoop c) rfl (fun _ _ => .inl (by simp)) harr⟩
  | panic ch => exact ⟨_, a₁, w₁, hq, .pass (x := .inLoop c) rfl (fun _ _ => .inl (by simp)) harr⟩
  | outgrown => exact ⟨_, a₁, w₁, hq, .pass (x := .inLoop c) rfl (fun _ _ => .inl (by simp)) harr⟩
/-- What is known of lists' values. -/
def AxOk (ρ : EnvS) (ax : List (LB × LB)) : Prop := ∀ q ∈ ax, ∀ (α : Nat → Pl) (j : Nat), (j : Int) < q.1.n.den ρ → valsB ρ α q.1 j = valsB ρ α q.2 j
theorem AxOk.nil {ρ : EnvS} : AxOk ρ [] := fun _ h => by cases h
/-- What is known of loops, and of what goes on in their rounds. -/
def Fam (B : EnvS → Prop) : List LAnn → EnvS → Prop
  | [], ρ => B ρ
  | A :: tl, ρ => Fam B tl ρ ∧ 0 ≤ ρ.v A.i ∧ (A.pc.Ok ρ ∧ AxOk ρ A.ax0) ∧ ∀ j : Int, 0 ≤ j → j < ρ.v A.i → ((∃ pcr ∈ A.pcR, pcr.Ok (ρ.upd A.i j)) ∧ AxOk (ρ.upd A.i j) A.ax) ∧ Fam B tl (ρ.upd A.i j)
theorem Fam.find {B : EnvS → Prop} {ρ : EnvS} {k : Nat} {ok : LAnn → Bool} {A : LAnn} {tl : List LAnn} : ∀ {lps : List LAnn}, LAnn.find k ok lps = some (A, tl) → Fam B lps ρ → ok A = true ∧ Fam B (A :: tl) ρ
  | [], h, _ => by cases h
  | C :: r, h, hF => by
    simp only [LAnn.find] at h
    cases hc : (C.key.beq k && ok C) with
    | true =>
      rw [hc] at h
      cases h
      exact ⟨(Bool.and_eq_true _ _ ▸ hc).2, hF⟩
    | false =>
      rw [hc] at h
      exact Fam.find h hF.1
end Go.Proofs.Ytmpadjlplgajcaa
