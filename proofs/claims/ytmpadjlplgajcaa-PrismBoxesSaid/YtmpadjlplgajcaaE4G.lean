/- The executor's laws: the operations of a region in their written order. -/
import Derived.Test.YtmpadjlplgajcaaE4O
namespace Go.Proofs.Ytmpadjlplgajcaa
open Go.RowKit

/-- The temporaries, as far as they are told; the marks of loops over functions. -/
structure RA (ρ : EnvS) (α : Nat → Pl) (nt : Nat) (tm : Tm) (mk : List Nat) (a : Act) : Prop where
  get : ∀ t s, tm.get t = some s → a.tmps[t]? = some (s.den ρ α)
  size : a.tmps.size = nt
  defers : a.defers = mk.map fun id => { target := .collected (α id).blk, args := #[] }
/-- What has been done since a call began, with the new names R. -/
structure Inv (ρ : EnvS) (α0 : Nat → Pl) (h0 : Vw) (W : World) (R : Nat → Prop) (α : Nat → Pl) (w : World) (d : Hp) : Prop where
  up : Upd R ρ α0 α h0 W w d
  ok : DOk R h0 d
/-- Where a call begins. -/
structure Cx (ρ : EnvS) (W0 : World) (α0 : Nat → Pl) (h0 : Vw) (W : World) (nx : Nat) : Prop where
  obs : Obs ρ W0.heap.size α0 W h0
  bel : Below W0.heap.size W0 W
  low : LowV nx h0
def TmLow (n : Nat) (tm : Tm) : Prop := ∀ m ∈ tm.ids, m < n
def DLow (n : Nat) (d : Hp) : Prop := ∀ k x, d.get k = some x → k < n ∧ ∀ o, x = some o → ∀ m ∈ o.ids, m < n
section
variable {ρ : EnvS} {P : Program} {α α' α0 : Nat → Pl} {h0 : Vw} {W W0 w w' : World} {nx n n' : Nat} {d f : Hp}
theorem mem_of_get : ∀ {f : Hp} {k : Nat} {x : Option Ob}, f.get k = some x → (k, x) ∈ f
  | [], k, x, h => by simp [Hp.get_nil] at h
  | (j, b) :: f, k, x, h => by
    rw [Hp.get_cons] at h
    split at h
    · rename_i e; cases h; subst e; exact List.mem_cons_self ..
    · exact List.mem_cons_of_mem _ (mem_of_get h)
theorem told_low {f : Hp} (h : f.told n = true) : DLow n f := by
  intro k x hk
  have := List.all_eq_true.1 h _ (mem_of_get hk)
  simp only [Bool.and_eq_true, Nat.blt_eq] at this
  refine ⟨this.1, fun o ho m hm => ?_⟩
  subst ho
  exact lowL_iff.1 this.2 m hm
theorem DLow.mono (h : DLow n d) (hn : n ≤ n') : DLow n' d := fun k x hk => ⟨Nat.lt_of_lt_of_le (h k x hk).1 hn, fun o ho m hm => Nat.lt_of_lt_of_le ((h k x hk).2 o ho m hm) hn⟩
theorem TmLow.mono {tm : Tm} (h : TmLow n tm) (hn : n ≤ n') : TmLow n' tm := fun m hm => Nat.lt_of_lt_of_le (h m hm) hn
theorem DLow.app (hf : DLow n f) (hd : DLow n d) : DLow n (Hp.app f d) := by
  intro k x hk
  rw [Hp.get_app] at hk
  split at hk
  · rename_i y hy; cases hk; exact hf k x hy
  · exact hd k x hk
theorem over_low (hd : DLow n d) (hl : LowV nx h0) (hn : nx ≤ n) : LowV n (d.over h0) := by
  intro id o ho
  cases hq : d.get id with
  | some x => rw [over_some hq] at ho; subst ho; exact ⟨(hd id _ hq).1, (hd id _ hq).2 o rfl⟩
  | none => rw [over_none hq] at ho; exact ⟨Nat.lt_of_lt_of_le (hl id o ho).1 hn, fun m hm => Nat.lt_of_lt_of_le ((hl id o ho).2 m hm) hn⟩
theorem dOk_spec {n0 n : Nat} {tch : List Nat} {h : Vw} (hd : dOk n0 n tch h f = true) : DOk (Rg n0 n) h f ∧ ∀ k, (f.get k).isSome = true → Rg n0 n k ∨ k ∈ tch := by
  have key : ∀ k x, f.get k = some x → Rg n0 n k ∨ (k ∈ tch ∧ ∃ o, h k = some o ∧ (o.addr = true ∧ ∀ o', x = some o' → o'.isL = o.isL) ∧ (o.ro = true → ∀ o', x = some o' → o'.ro = true) ∧ (o.ro = false → ∀ j ∈ o.sib, (f.get j).isSome = true)) := by
    intro k x hk
    have := List.all_eq_true.1 hd _ (mem_of_get hk)
    simp only [Bool.or_eq_true, Bool.and_eq_true, Nat.ble_eq, Nat.blt_eq] at this
    rcases this with h1 | ⟨h1, h2⟩
    · exact .inl h1
    · refine .inr ⟨?_, ?_⟩
      · obtain ⟨j, hj, e⟩ := List.any_eq_true.1 h1
        rw [← Nat.eq_of_beq_eq_true e]; exact hj
      · split at h2
        · rename_i o ho
          simp only [Bool.and_eq_true] at h2
          refine ⟨o, ho, ⟨h2.1.1, fun o' hx => ?_⟩, fun hro o' hx => ?_, fun hro j hj => ?_⟩
          · have := h2.1.2
            subst hx
            exact eq_of_beq this
          · have := h2.2
            rw [if_pos hro] at this
            subst hx
            exact this
          · have := h2.2
            rw [if_neg (by simp [hro])] at this
            have := List.all_eq_true.1 this j hj
            rwa [Hp.has_get] at this
        · cases h2
  refine ⟨fun k x hk => (key k x hk).imp (fun q => q) fun q => q.2, fun k hk => ?_⟩
  obtain ⟨x, hx⟩ := Option.isSome_iff_exists.1 hk
  exact (key k x hx).imp (fun q => q) fun q => q.1
theorem fresh_low {h : Vw} (hl : LowV n h) : Fresh (Rg n n') h := fun id o ho => ⟨fun q => by have := (hl id o ho).1; have := q.1; omega, fun m hm q => by have := (hl id o ho).2 m hm; have := q.1; omega⟩
/-- One operation more. -/
theorem inv_step {R R' : Nat → Prop} (cx : Cx ρ W0 α0 h0 W nx) (hR : ∀ i, R i → nx ≤ i) (hI : Inv ρ α0 h0 W R α w d) (hn : nx ≤ n) (hF : Fresh (Rg n n') (d.over h0)) (U : Upd (Rg n n') ρ α α' (d.over h0) w w' f) (D : DOk (Rg n n') (d.over h0) f)
    (hR' : ∀ i, R' i ↔ R i ∨ Rg n n' i) : Inv ρ α0 h0 W R' α' w' (Hp.app f d) := by
  have hF1 : Fresh R h0 := fun id o ho => ⟨fun q => by have := (cx.low id o ho).1; have := hR id q; omega, fun m hm q => by have := (cx.low id o ho).2 m hm; have := hR m q; omega⟩
  have hF2 : ∀ id o, h0 id = some o → ¬ Rg n n' id := fun id o ho q => by have := (cx.low id o ho).1; have := q.1; omega
  obtain ⟨U', D'⟩ := upd_trans cx.obs cx.bel.size hF1 hF2 hF hI.up hI.ok U D
  refine ⟨U'.names D' (fun i hi => (hR' i).2 hi) fun i o ho q => ?_, D'.names fun i hi => (hR' i).2 hi⟩
  rcases (hR' i).1 q with q | q
  · exact (hF1 i o ho).1 q
  · exact hF2 i o ho q
theorem inv_obs {R : Nat → Prop} (cx : Cx ρ W0 α0 h0 W nx) (hR : ∀ i, R i → nx ≤ i) (hI : Inv ρ α0 h0 W R α w d) : Obs ρ W0.heap.size α w (d.over h0) :=
  obs_over cx.obs cx.bel.size (fun id o ho => ⟨fun q => by have := (cx.low id o ho).1; have := hR id q; omega, fun m hm q => by have := (cx.low id o ho).2 m hm; have := hR m q; omega⟩) hI.up hI.ok
theorem inv_below {R : Nat → Prop} (cx : Cx ρ W0 α0 h0 W nx) (hI : Inv ρ α0 h0 W R α w d) : Below W0.heap.size W0 w :=
  cx.bel.trans (hI.up.st.below cx.bel.size fun k hk hx => by
    obtain ⟨i, o, _, _, h3, h4, _, rfl⟩ := hx
    have := cx.obs.low i o h3 h4
    omega)
theorem RA.put {nt : Nat} {tm : Tm} {mk : List Nat} {a : Act} (r : RA ρ α nt tm mk a) {d : Option Tmp} (hd : ∀ t, d = some t → t < nt) (v : SV) : RA ρ α nt (tm.put d v) mk (a.put d (v.den ρ α)) := by
  cases d with
  | none => exact r
  | some t =>
    have ht := hd t rfl
    refine ⟨fun u s hu => ?_, by simp [Act.put, r.size], r.defers⟩
    simp only [Tm.put, Tm.get_cons] at hu
    simp only [Act.put, Array.getElem?_setIfInBounds]
    split at hu
    · rename_i e; cases hu; subst e; simp [r.size, ht]
    · rename_i e; simp [e]; exact r.get u s hu
theorem RA.congr {nt : Nat} {tm : Tm} {mk : List Nat} {a : Act} (r : RA ρ α nt tm mk a) (h1 : ∀ t s, tm.get t = some s → ∀ m ∈ s.ids, α m = α' m) (h2 : ∀ m ∈ mk, α m = α' m) : RA ρ α' nt tm mk a :=
  ⟨fun t s hs => by rw [← SV.den_ids (h1 t s hs)]; exact r.get t s hs, r.size, by rw [r.defers]; exact List.map_congr_left fun m hm => by rw [h2 m hm]⟩
theorem ev_den {nt : Nat} {tm : Tm} {mk : List Nat} {a : Act} (r : RA ρ α nt tm mk a) {x : Operand} {s : SV} (h : ev tm x = some s) : a.eval x = s.den ρ α := by
  cases x with
  | tmp t => have := r.get t s h; simp [Act.eval, Array.getD_eq_getD_getElem?, this]
  | const v => exact (cst_den ρ α h).symm
  | global g => simp [ev] at h
  | func f => simp [ev] at h; subst h; rfl
theorem cst_ids {v : Value} {s : SV} (h : cst v = some s) : s.ids = [] := by
  have one : ∀ {u : Value} {c : SCl}, cst1 u = some c → idsL [c] = [] := by
    intro u c hu
    cases u <;> simp [cst1] at hu <;> subst hu <;> rfl
  have many : ∀ {us : List Value} {cs : List SCl}, cstL us = some cs → idsL cs = [] := by
    intro us
    induction us with
    | nil => intro cs hu; simp [cstL] at hu; subst hu; rfl
    | cons u us ih =>
      intro cs hu
      simp only [cstL] at hu
      split at hu
      · rename_i c cs' k1 k2
        cases hu
        rw [show c :: cs' = [c] ++ cs' from rfl, idsL_append, one k1, ih k2]
        rfl
      · cases hu
  unfold cst at h
  split at h
  · rw [Option.map_eq_some_iff] at h
    obtain ⟨l, hl, rfl⟩ := h
    exact many hl
  · cases h; rfl
  · rw [Option.map_eq_some_iff] at h
    obtain ⟨l, hl, rfl⟩ := h
    exact one hl
theorem ev_low {tm : Tm} (ht : TmLow n tm) {x : Operand} {s : SV} (h : ev tm x = some s) : s.below n = true := by
  refine lowL_iff.2 ?_
  cases x with
  | tmp t => exact fun m hm => ht m (Tm.get_ids h m hm)
  | const v => rw [cst_ids h]; intro m hm; cases hm
  | global g => simp [ev] at h
  | func f => simp [ev] at h; subst h; intro m hm; simp [SV.ids, idsL, SCl.id?] at hm
theorem TmLow.put {tm : Tm} (h : TmLow n tm) (dst : Option Tmp) {v : SV} (hv : v.below n = true) : TmLow n (tm.put dst v) := by
  intro m hm
  cases dst with
  | none => exact h m hm
  | some u =>
    simp only [Tm.put, Tm.ids, List.mem_append] at hm
    exact hm.elim (lowL_iff.1 hv m) (h m)
theorem guard_some {β : Type} {nt : Nat} {tm : Tm} {mk : List Nat} {a : Act} (r : RA ρ α nt tm mk a) {pc : PC} (hpc : pc.Ok ρ) {ops : Array Oper} {o : Oper} {k : PC → Bool → T β} {out : β} (h : (guardE ops tm pc o k).pick ρ = some out) :
    ∃ pc', pc'.Ok ρ ∧ (k pc' (Region.wanted o (yielded ops a.tmps))).pick ρ = some out := by
  unfold guardE at h
  unfold Region.wanted
  split at h
  · rename_i e; exact ⟨pc, hpc, by rw [e]; exact h⟩
  · rename_i j want e
    rw [e]
    split at h
    · exact (T.bad_some h).elim
    · rename_i t ht
      split at h
      · rename_i b hb
        obtain ⟨pc', h1, h2⟩ := T.cond_some hpc h
        refine ⟨pc', h1, ?_⟩
        have : yielded ops a.tmps j = some (b.den ρ) := by
          unfold yielded
          rw [ht]
          simp only [Option.bind_some, r.get t _ hb, SV.den, SCl.den]
        simp only [this]
        have e2 : (some (b.den ρ) == some want) = (b.den ρ == want) := by cases b.den ρ <;> cases want <;> rfl
        rw [e2]
        exact h2
      · rename_i vs hb
        refine ⟨pc, hpc, ?_⟩
        have : yielded ops a.tmps j = none := by
          unfold yielded
          rw [ht]
          simp only [Option.bind_some, r.get t _ hb, SV.den]
        simp only [this]
        exact h
      · exact (T.bad_some h).elim
theorem rg_join (h1 : nx ≤ n) (h2 : n ≤ n') (i : Nat) : Rg nx n' i ↔ Rg nx n i ∨ Rg n n' i := by
  unfold Rg; omega
theorem okR_eq (n : Nat) (s : Res) (h : Vw) : okR n s h = (n.ble s.n && s.v.below s.n && s.f.told s.n && dOk n s.n s.tch h s.f) := by
  unfold okR
  cases n.ble s.n <;> cases s.v.below s.n <;> (try rfl)
  show (match s.f with | [] => true | f => s.f.told s.n && dOk n s.n s.tch h f) = _
  split
  · rename_i e; rw [e]; rfl
  · simp
theorem seqE_cons (P : Program) (call : CallF) (h0 : Vw) (ops : Array Oper) (o : Oper) (r : List Oper) (pc : PC) (tm : Tm) (d : Hp) (n : Nat) (acc : List Rr) :
    seqE P call h0 ops (o :: r) pc tm d n acc = guardE ops tm pc o fun pc w =>
      if w then (opE P call pc (ev tm) (d.over h0) n o).bind fun s =>
        if n.ble s.n && s.v.below s.n && s.f.told s.n && dOk n s.n s.tch (d.over h0) s.f then
          seqE P call h0 ops r s.pc (tm.put o.dst s.v) (s.f.app d) s.n (⟨s.v, s.f, n, s.n, s.tch⟩ :: acc) else .bad 42
      else seqE P call h0 ops r pc (tm.put o.dst (.tup [])) d n (⟨.tup [], [], n, n, []⟩ :: acc) := by
  show guardE ops tm pc o (fun pc w => cond w ((opE P call pc (ev tm) (d.over h0) n o).bind fun s =>
        cond (okR n s (d.over h0)) (seqE P call h0 ops r s.pc (tm.put o.dst s.v) (s.f.app d) s.n (⟨s.v, s.f, n, s.n, s.tch⟩ :: acc)) (.bad 42))
        (seqE P call h0 ops r pc (tm.put o.dst (.tup [])) d n (⟨.tup [], [], n, n, []⟩ :: acc))) = _
  congr 1
  funext pc w
  cases w
  · rfl
  · show T.bind _ _ = T.bind _ _
    congr 1
    funext s
    rw [okR_eq]
    cases (n.ble s.n && s.v.below s.n && s.f.told s.n && dOk n s.n s.tch (d.over h0) s.f) <;> rfl
/-- The operations in their written order. -/
theorem seq_sound {call : CallF} (hcall : CallOk P ρ W0 call) {rd : Option Nat} {nt : Nat} {mk : List Nat} {ops : Array Oper} (cx : Cx ρ W0 α0 h0 W nx) (hd : ∀ o ∈ ops.toList, ∀ t, o.dst = some t → t < nt) {Q : Exit → Act → World → Prop} :
    ∀ (l : List Oper) (i : Nat) (pc : PC) (tm : Tm) (d : Hp) (n : Nat) (acc : List Rr) {out : PC × Tm × Hp × Nat × List Rr} {α : Nat → Pl} {a : Act} {w : World},
      (∀ j, l[j]? = ops[i + j]?) → (seqE P call h0 ops l pc tm d n acc).pick ρ = some out → pc.Ok ρ → RA ρ α nt tm mk a → Inv ρ α0 h0 W (Rg nx n) α w d → TmLow n tm → DLow n d → nx ≤ n → (∀ m ∈ mk, m < n) →
      (∀ α' a' w', out.1.Ok ρ → RA ρ α' nt out.2.1 mk a' → Inv ρ α0 h0 W (Rg nx out.2.2.2.1) α' w' out.2.2.1 → TmLow out.2.2.2.1 out.2.1 → DLow out.2.2.2.1 out.2.2.1 → n ≤ out.2.2.2.1 → (∀ m, m < n → α' m = α m) → Q .normal a' w') →
      wpOpsIn (FW rd) 0 P ops Q (List.range' i l.length) a w
  | [], i, pc, tm, d, n, acc, out, α, a, w, _, hr, hpc, ra, hI, ht, hdl, hn, hmk, hQ => by
    have := T.ret_some hr
    subst this
    exact hQ α a w hpc ra hI ht hdl (Nat.le_refl _) fun _ _ => rfl
  | o :: l, i, pc, tm, d, n, acc, out, α, a, w, hl, hr, hpc, ra, hI, ht, hdl, hn, hmk, hQ => by
    have ho : ops[i]? = some o := by have := hl 0; simpa using this.symm
    have hl' : ∀ j, l[j]? = ops[i + 1 + j]? := fun j => by
      have := hl (j + 1)
      rw [List.getElem?_cons_succ] at this
      rw [this]
      congr 1
      omega
    have hdo : ∀ t, o.dst = some t → t < nt := fun t ht => hd o (Array.mem_toList_iff.2 (Array.mem_of_getElem? ho)) t ht
    rw [seqE_cons] at hr
    obtain ⟨pc', hpc', h1⟩ := guard_some ra hpc hr
    simp only [List.length_cons, List.range'_succ, wpOpsIn, ho]
    split
    · rename_i hw
      rw [hw] at h1
      simp only [if_true] at h1
      obtain ⟨s, h2, h3⟩ := T.bind_some h1
      split at h3
      · rename_i hchk
        simp only [Bool.and_eq_true, Nat.ble_eq] at hchk
        obtain ⟨⟨⟨hns, hv⟩, hf⟩, hdk⟩ := hchk
        have hobs := inv_obs cx (fun i hi => hi.1) hI
        have hlow := over_low hdl cx.low hn
        have hs := op_sound hcall (rd := rd) hpc' h2 (α := α) (a := a) (w := w) (fun x _ s hs => ⟨ev_den ra hs, ev_low ht hs⟩) hlow (inv_below cx hI) (hobs.sub fun i o e => by
          split at e
          · exact e
          · cases e)
        obtain ⟨DK, _⟩ := dOk_spec hdk
        refine hs.2 _ _ fun v' w' hv' => ?_
        obtain ⟨α', rfl, U⟩ := hv'
        have hα : ∀ m, m < n → α m = α' m := fun m hm => (U.al m fun q => by have := q.1; omega).symm
        have hI' := inv_step cx (fun i hi => hi.1) hI hn (fresh_low hlow) U DK (fun i => rg_join hn hns i)
        refine seq_sound hcall cx hd l (i + 1) s.pc _ _ s.n _ hl' h3 hs.1 ((ra.congr (fun t s hs m hm => hα m (ht m (Tm.get_ids hs m hm))) fun m hm => hα m (hmk m hm)).put hdo s.v) hI' ((ht.mono hns).put _ hv) ((told_low hf).app (hdl.mono hns)) (by omega) (fun m hm => by have := hmk m hm; omega) (fun α2 a2 w2 q1 q2 q3 q4 q5 q6 q7 => hQ α2 a2 w2 q1 q2 q3 q4 q5 (by omega) fun m hm => (q7 m (by omega)).trans (hα m hm).symm)
      · exact (T.bad_some h3).elim
    · rename_i hw
      have hw' : Region.wanted o (yielded ops a.tmps) = false := by simpa using hw
      rw [hw'] at h1
      simp only [Bool.false_eq_true, if_false] at h1
      exact ⟨fun _ _ => trivial, seq_sound hcall cx hd l (i + 1) pc' _ _ n _ hl' h1 hpc' (ra.put hdo (.tup [])) hI (ht.put _ rfl) hdl hn hmk hQ⟩
end
end Go.Proofs.Ytmpadjlplgajcaa
