/- The executor's laws: a region that draws its order: where what depends on one another is ordered, every order comes to what the written order comes to. -/
import Derived.Test.YtmpadjlplgajcaaE4G
import Derived.OrdersIn
namespace Go.Proofs.Ytmpadjlplgajcaa
open Go.RowKit
section
variable {ρ : EnvS} {P : Program}
def GuardIs (ρ : EnvS) (ops : Array Oper) (tm : Tm) (o : Oper) (w : Bool) : Prop :=
  match o.guard with
  | none => w = true
  | some (j, want) => ∃ t, (ops[j]?).bind (·.dst) = some t ∧ ((∃ b, tm.get t = some (.one (.bool b)) ∧ w = (b.den ρ == want)) ∨ (∃ vs, tm.get t = some (.tup vs) ∧ w = false))
theorem guard_canon {β : Type} {tm : Tm} {pc : PC} (hpc : pc.Ok ρ) {ops : Array Oper} {o : Oper} {k : PC → Bool → T β} {out : β} (h : (guardE ops tm pc o k).pick ρ = some out) :
    ∃ pc' w, pc'.Ok ρ ∧ GuardIs ρ ops tm o w ∧ (k pc' w).pick ρ = some out := by
  unfold guardE at h
  unfold GuardIs
  split at h
  · rename_i e; exact ⟨pc, true, hpc, by rw [e], h⟩
  · rename_i j want e
    rw [e]
    split at h
    · exact (T.bad_some h).elim
    · rename_i t ht
      split at h
      · rename_i b hb
        obtain ⟨pc', h1, h2⟩ := T.cond_some hpc h
        exact ⟨pc', _, h1, ⟨t, ht, .inl ⟨b, hb, rfl⟩⟩, h2⟩
      · rename_i vs hb
        exact ⟨pc, false, hpc, ⟨t, ht, .inr ⟨vs, hb, rfl⟩⟩, h⟩
      · exact (T.bad_some h).elim
theorem guard_wanted {α : Nat → Pl} {tm : Tm} {a : Act} {ops : Array Oper} {o : Oper} {w : Bool} (h : GuardIs ρ ops tm o w) (hg : ∀ t ∈ o.looksAt ops, ∀ s, tm.get t = some s → a.tmps[t]? = some (s.den ρ α)) :
    Region.wanted o (yielded ops a.tmps) = w := by
  unfold GuardIs at h
  unfold Region.wanted
  unfold Oper.looksAt at hg
  split at h
  · rename_i e; rw [e]; exact h.symm
  · rename_i j want e
    rw [e] at hg ⊢
    obtain ⟨t, ht, h⟩ := h
    have hm := hg t (List.mem_append.2 (.inr (by simp [ht])))
    simp only
    rcases h with ⟨b, hb, rfl⟩ | ⟨vs, hb, rfl⟩
    · have : yielded ops a.tmps j = some (b.den ρ) := by
        unfold yielded
        rw [ht]
        simp only [Option.bind_some, hm _ hb, SV.den, SCl.den]
      rw [this]
      cases b.den ρ <;> cases want <;> rfl
    · have : yielded ops a.tmps j = none := by
        unfold yielded
        rw [ht]
        simp only [Option.bind_some, hm _ hb, SV.den]
      rw [this]
      rfl
theorem opE_pc {call : CallF} {W0 : World} (hcall : CallOk P ρ W0 call) {pc : PC} (hpc : pc.Ok ρ) {e : Operand → Option SV} {h : Vw} {n : Nat} {o : Oper} {r : Res}
    (hr : (opE P call pc e h n o).pick ρ = some r) : r.pc.Ok ρ := by
  have vp : ∀ {pc' : PC} {x : Option SV}, pc'.Ok ρ → (val n pc' x).pick ρ = some r → r.pc.Ok ρ := fun h1 h2 => by
    obtain ⟨v, _, rfl⟩ := val_some h2
    exact h1
  have vt : ∀ {t : List Nat} {x : Option SV}, (valT n pc t x).pick ρ = some r → r.pc.Ok ρ := fun h2 => by
    obtain ⟨v, _, rfl⟩ := valT_some h2
    exact hpc
  have rp : ∀ {s : Res}, (T.ret s).pick ρ = some r → s.pc = pc → r.pc.Ok ρ := fun h1 h2 => by
    have := T.ret_some h1
    subst this
    rw [h2]
    exact hpc
  obtain ⟨dst, op, type, pos, after, guard⟩ := o
  cases op with
  | pick c x y =>
    simp only [opE, oPick] at hr
    split at hr
    · obtain ⟨pc', h1, h2⟩ := T.cond_some hpc hr
      exact vp h1 h2
    · exact (T.bad_some hr).elim
  | binOp op t x y ty =>
    simp only [opE, oBin, oInt, oAgg, oBoo, oNi, oStr, oNl] at hr
    repeat' split at hr
    all_goals first
      | exact (T.bad_some hr).elim
      | exact vp hpc hr
      | exact vt hr
      | (obtain ⟨pc', h1, h2⟩ := T.cond_some hpc hr
         first
           | exact vp h1 h2
           | (split at h2
              · exact (T.bad_some h2).elim
              · exact vp h1 h2))
  | call c =>
    simp only [opE, oCall, oLen, oCap, oMin, oMax, oApp, oCpy, oClr, oVal, appE, appZ, appB, appC] at hr
    repeat' split at hr
    all_goals first
      | exact (T.bad_some hr).elim
      | exact vp hpc hr
      | exact vt hr
      | exact rp hr rfl
      | skip
    obtain ⟨⟨v, d, n', pc'⟩, h1, h2⟩ := T.bind_some hr
    have := T.ret_some h2
    subst this
    exact (hcall.2 _ _ _ _ _ _ _ _ _ hpc h1).1
  | move x =>
    simp only [opE] at hr
    exact vp hpc hr
  | assign x =>
    simp only [opE] at hr
    exact vp hpc hr
  | alloc t =>
    simp only [opE, oAlloc] at hr
    repeat' split at hr
    all_goals first
      | exact (T.bad_some hr).elim
      | exact vp hpc hr
      | exact vt hr
      | exact rp hr rfl
  | box t x =>
    simp only [opE, oBox] at hr
    repeat' split at hr
    all_goals first
      | exact (T.bad_some hr).elim
      | exact vp hpc hr
      | exact vt hr
      | exact rp hr rfl
  | build t p =>
    simp only [opE, oBuild] at hr
    repeat' split at hr
    all_goals first
      | exact (T.bad_some hr).elim
      | exact vp hpc hr
      | exact vt hr
      | exact rp hr rfl
  | load t x =>
    simp only [opE, oLoad] at hr
    repeat' split at hr
    all_goals first
      | exact (T.bad_some hr).elim
      | exact vp hpc hr
      | exact vt hr
      | exact rp hr rfl
  | store t x y =>
    simp only [opE, oStore] at hr
    repeat' split at hr
    all_goals first
      | exact (T.bad_some hr).elim
      | exact vp hpc hr
      | exact vt hr
      | exact rp hr rfl
  | nilCheck x =>
    simp only [opE, oNil] at hr
    repeat' split at hr
    all_goals first
      | exact (T.bad_some hr).elim
      | exact vp hpc hr
      | exact vt hr
      | exact rp hr rfl
  | unOp o t x =>
    simp only [opE, oUn] at hr
    repeat' split at hr
    all_goals first
      | exact (T.bad_some hr).elim
      | exact vp hpc hr
      | exact vt hr
      | exact rp hr rfl
  | convert s d x =>
    simp only [opE, oConv] at hr
    repeat' split at hr
    all_goals first
      | exact (T.bad_some hr).elim
      | exact vp hpc hr
      | exact vt hr
      | exact rp hr rfl
  | fieldAddr s x f =>
    simp only [opE, oFA] at hr
    repeat' split at hr
    all_goals first
      | exact (T.bad_some hr).elim
      | exact vp hpc hr
      | exact vt hr
      | exact rp hr rfl
  | field t x f =>
    simp only [opE, oFld] at hr
    repeat' split at hr
    all_goals first
      | exact (T.bad_some hr).elim
      | exact vp hpc hr
      | exact vt hr
      | exact rp hr rfl
  | indexAddr t x i =>
    simp only [opE, oIA] at hr
    repeat' split at hr
    all_goals first
      | exact (T.bad_some hr).elim
      | exact vp hpc hr
      | exact vt hr
      | exact rp hr rfl
  | index t x i =>
    simp only [opE, oIdx] at hr
    repeat' split at hr
    all_goals first
      | exact (T.bad_some hr).elim
      | exact vp hpc hr
      | exact vt hr
      | exact rp hr rfl
  | extract x i =>
    simp only [opE, oExt] at hr
    repeat' split at hr
    all_goals first
      | exact (T.bad_some hr).elim
      | exact vp hpc hr
      | exact vt hr
      | exact rp hr rfl
  | makeFunc f a b =>
    simp only [opE, oMkF] at hr
    repeat' split at hr
    all_goals first
      | exact (T.bad_some hr).elim
      | exact vp hpc hr
      | exact vt hr
      | exact rp hr rfl
  | buildSlice t l p =>
    simp only [opE, oBS] at hr
    repeat' split at hr
    all_goals first
      | exact (T.bad_some hr).elim
      | exact vp hpc hr
      | exact vt hr
      | exact rp hr rfl
  | makeSlice t l c =>
    simp only [opE, oMkS] at hr
    repeat' split at hr
    all_goals first
      | exact (T.bad_some hr).elim
      | exact vp hpc hr
      | exact vt hr
      | exact rp hr rfl
  | slice t x a b c =>
    simp only [opE, oSl] at hr
    repeat' split at hr
    all_goals first
      | exact (T.bad_some hr).elim
      | exact vp hpc hr
      | exact vt hr
      | exact rp hr rfl
  | _ => exact (T.bad_some (by simpa only [opE] using hr)).elim
/-- One step of the written order. -/
def StepOk (P : Program) (ρ : EnvS) (call : CallF) (h0 : Vw) (ops : Array Oper) (s s' : Tm × Hp) (o : Oper) (r : Rr) (c c' : Nat) : Prop :=
  s'.1 = s.1.put o.dst r.v ∧ s'.2 = r.f.app s.2 ∧ r.n0 = c ∧ r.n = c' ∧ c ≤ c' ∧ ∃ pc w, pc.Ok ρ ∧ GuardIs ρ ops s.1 o w ∧
    (if w = true then (∃ pc', (opE P call pc (ev s.1) (s.2.over h0) c o).pick ρ = some ⟨r.v, r.f, c', pc', r.tch⟩) ∧ dOk c c' r.tch (s.2.over h0) r.f = true ∧ r.v.below c' = true ∧ r.f.told c' = true else r = ⟨.tup [], [], c, c, []⟩)
theorem seq_canon {call : CallF} {W0 : World} (hcall : CallOk P ρ W0 call) {h0 : Vw} {ops : Array Oper} :
    ∀ (l : List Oper) (i : Nat) (pc : PC) (tm : Tm) (d : Hp) (n : Nat) (acc : List Rr) {out : PC × Tm × Hp × Nat × List Rr}, (seqE P call h0 ops l pc tm d n acc).pick ρ = some out → pc.Ok ρ →
      ∃ (F : Nat → Tm × Hp) (c : Nat → Nat) (rs : List Rr), out.2.2.2.2 = acc.reverse ++ rs ∧ rs.length = l.length ∧ F i = (tm, d) ∧ c i = n ∧ F (i + l.length) = (out.2.1, out.2.2.1) ∧ c (i + l.length) = out.2.2.2.1 ∧ out.1.Ok ρ ∧
        ∀ k o r, l[k]? = some o → rs[k]? = some r → StepOk P ρ call h0 ops (F (i + k)) (F (i + k + 1)) o r (c (i + k)) (c (i + k + 1))
  | [], i, pc, tm, d, n, acc, out, hr, hpc => by
    have := T.ret_some hr
    subst this
    exact ⟨fun _ => (tm, d), fun _ => n, [], by simp, rfl, rfl, rfl, rfl, rfl, hpc, fun k o r hk => by simp at hk⟩
  | o :: l, i, pc, tm, d, n, acc, out, hr, hpc => by
    rw [seqE_cons] at hr
    obtain ⟨pc', w, hpc', hg, h1⟩ := guard_canon hpc hr
    have key : ∀ (pc2 : PC) (r : Rr) (n' : Nat), r.n0 = n → r.n = n' → n ≤ n' → pc2.Ok ρ → (seqE P call h0 ops l pc2 (tm.put o.dst r.v) (r.f.app d) n' (r :: acc)).pick ρ = some out →
        (if w = true then (∃ pc'', (opE P call pc' (ev tm) (d.over h0) n o).pick ρ = some ⟨r.v, r.f, n', pc'', r.tch⟩) ∧ dOk n n' r.tch (d.over h0) r.f = true ∧ r.v.below n' = true ∧ r.f.told n' = true else r = ⟨.tup [], [], n, n, []⟩) →
        ∃ (F : Nat → Tm × Hp) (c : Nat → Nat) (rs : List Rr), out.2.2.2.2 = acc.reverse ++ rs ∧ rs.length = (o :: l).length ∧ F i = (tm, d) ∧ c i = n ∧ F (i + (o :: l).length) = (out.2.1, out.2.2.1) ∧ c (i + (o :: l).length) = out.2.2.2.1 ∧ out.1.Ok ρ ∧
          ∀ k o' r, (o :: l)[k]? = some o' → rs[k]? = some r → StepOk P ρ call h0 ops (F (i + k)) (F (i + k + 1)) o' r (c (i + k)) (c (i + k + 1)) := by
      intro pc2 r n' e1 e2 hle h2 h3 h4
      obtain ⟨F, c, rs, e3, e4, e5, e6, e7, e8, e9, e10⟩ := seq_canon hcall l (i + 1) pc2 _ _ _ _ h3 h2
      refine ⟨fun j => if j = i then (tm, d) else F j, fun j => if j = i then n else c j, r :: rs, by simp [e3], by simp [e4], by simp, by simp, ?_, ?_, e9, ?_⟩
      · have : i + (o :: l).length ≠ i := by simp
        simp only [this, if_false]
        rw [← e7]
        congr 1
        simp only [List.length_cons]
        omega
      · have : i + (o :: l).length ≠ i := by simp
        simp only [this, if_false]
        rw [← e8]
        congr 1
        simp only [List.length_cons]
        omega
      · intro k o' r' hk hr'
        cases k with
        | zero =>
          simp only [List.getElem?_cons_zero, Option.some.injEq] at hk hr'
          subst hk
          subst hr'
          simp only [Nat.add_zero, if_true, show i + 1 ≠ i by omega, if_false, e5, e6]
          exact ⟨rfl, rfl, e1, e2, hle, pc', w, hpc', hg, h4⟩
        | succ k =>
          rw [List.getElem?_cons_succ] at hk hr'
          have := e10 k o' r' hk hr'
          have q1 : i + (k + 1) ≠ i := by omega
          have q2 : i + (k + 1) + 1 ≠ i := by omega
          simp only [q1, q2, if_false]
          rw [show i + (k + 1) = i + 1 + k by omega]
          exact this
    cases w
    · simp only [Bool.false_eq_true, if_false] at h1
      exact key pc' ⟨.tup [], [], n, n, []⟩ n rfl rfl (Nat.le_refl _) hpc' h1 (by simp)
    · simp only [if_true] at h1
      obtain ⟨s, h2, h3⟩ := T.bind_some h1
      split at h3
      · rename_i hchk
        simp only [Bool.and_eq_true, Nat.ble_eq] at hchk
        obtain ⟨⟨⟨hns, hv⟩, hf⟩, hdk⟩ := hchk
        have hpc2 : s.pc.Ok ρ := opE_pc hcall hpc' h2
        exact key s.pc ⟨s.v, s.f, n, s.n, s.tch⟩ s.n rfl rfl hns hpc2 h3 (by simp only [if_true]; exact ⟨⟨s.pc, h2⟩, hdk, hv, hf⟩)
      · exact (T.bad_some h3).elim

/-! ### Any order -/
theorem put_get (tm : Tm) (d : Option Tmp) (v : SV) (t : Nat) : (tm.put d v).get t = if d = some t then some v else tm.get t := by
  cases d with
  | none => simp [Tm.put]
  | some u => simp [Tm.put, Tm.get_cons]
/-- What the operations of the set D have come to, in the written order, up to number k. -/
def SD (O : Nat → Oper) (R : Nat → Rr) (s0 : Tm × Hp) (D : Nat → Bool) : Nat → Tm × Hp
  | 0 => s0
  | k + 1 => if D k then ((SD O R s0 D k).1.put (O k).dst (R k).v, (R k).f.app (SD O R s0 D k).2) else SD O R s0 D k
structure NoClash (ops : Array Oper) (x y : Oper × Rr) : Prop where
  a : ∀ t, x.1.dst = some t → t ∉ looks ops y.1
  b : ∀ t, y.1.dst = some t → t ∉ looks ops x.1
  c : ∀ t, x.1.dst = some t → y.1.dst ≠ some t
  d : ∀ id, (x.2.f.get id).isSome = true → id ∉ y.2.tch
  e : ∀ id, (y.2.f.get id).isSome = true → id ∉ x.2.tch
  f : ∀ id, (x.2.f.get id).isSome = true → y.2.f.get id = none
theorem inO_false {x : Option Nat} {l : List Nat} (h : inO x l = false) : ∀ t, x = some t → t ∉ l := by
  intro t ht hm
  subst ht
  simp only [inO, List.any_eq_false] at h
  exact h t hm (by simp)
theorem sameO_false {x y : Option Nat} (h : sameO x y = false) : ∀ t, x = some t → y ≠ some t := by
  intro t h1 h2
  subst h1
  subst h2
  simp [sameO] at h
theorem keys_get {f : Hp} {id : Nat} (h : (f.get id).isSome = true) : id ∈ f.keys := by
  obtain ⟨x, hx⟩ := Option.isSome_iff_exists.1 h
  exact List.mem_map.2 ⟨(id, x), mem_of_get hx, rfl⟩
theorem meets_false {a b : List Nat} (h : meets a b = false) : ∀ x ∈ a, x ∉ b := by
  intro x hx hb
  simp only [meets, List.any_eq_false] at h
  have := h x hx
  simp only [List.any_eq_true, not_exists, not_and] at this
  exact this x hb (Nat.beq_refl x)
theorem noClash {ops : Array Oper} {x y : Oper × Rr} (h : clash ops x y = false) : NoClash ops x y := by
  simp only [clash, Bool.or_eq_false_iff] at h
  obtain ⟨⟨⟨⟨⟨h1, h2⟩, h3⟩, h4⟩, h5⟩, h6⟩ := h
  refine ⟨inO_false h1, inO_false h2, sameO_false h3, fun id hid => meets_false h4 id (keys_get hid), fun id hid => meets_false h5 id (keys_get hid), fun id hid => ?_⟩
  cases hq : y.2.f.get id with
  | none => rfl
  | some z => exact absurd (keys_get (by rw [hq]; rfl)) (meets_false h6 id (keys_get hid))
structure AnyOk (ops : Array Oper) (base n : Nat) (O : Nat → Oper) (R : Nat → Rr) (anc : Nat → Nat) : Prop where
  c1 : ∀ i k, i < n → k < i → (anc i).testBit k = true ∨ NoClash ops (O k, R k) (O i, R i)
  c2 : ∀ i, i < n → ∀ id ∈ (R i).v.ids ++ (R i).f.ids, id < base ∨ Rg (R i).n0 (R i).n id ∨ ∃ k, k < i ∧ (anc i).testBit k = true ∧ Rg (R k).n0 (R k).n id
  c3 : ∀ i, i < n → ∀ e ∈ (O i).after, Region.binds .any e = true → e.on < i
  c4 : ∀ i k, i < n → (anc i).testBit k = true → ∃ e ∈ (O i).after, Region.binds .any e = true ∧ (k = e.on ∨ (anc e.on).testBit k = true)
section any
variable {ops : Array Oper} {base n : Nat} {O : Nat → Oper} {R : Nat → Rr} {anc : Nat → Nat} {s0 : Tm × Hp} {D : Nat → Bool} {i : Nat}
def DC (n : Nat) (anc : Nat → Nat) (D : Nat → Bool) : Prop := ∀ j, j < n → D j = true → ∀ k, (anc j).testBit k = true → D k = true
/-- Two operations of which neither is ordered before the other. -/
theorem free_of (ok : AnyOk ops base n O R anc) (hdc : DC n anc D) (hi : i < n) (hDi : D i = false) (hr : ∀ k, (anc i).testBit k = true → D k = true) {k : Nat} (hk : k < n) (hne : k ≠ i) (hDk : D k = (decide (i < k))) :
    NoClash ops (O k, R k) (O i, R i) := by
  rcases Nat.lt_or_ge k i with h | h
  · rcases ok.c1 i k hi h with h1 | h1
    · have := hr k h1
      rw [hDk] at this
      simp at this
      omega
    · exact h1
  · have hlt : i < k := by omega
    rcases ok.c1 k i hk hlt with h1 | h1
    · have := hdc k hk (by rw [hDk]; simpa using hlt) i h1
      rw [hDi] at this
      cases this
    · exact ⟨h1.b, h1.a, fun t q1 q2 => h1.c t q2 q1, h1.e, h1.d, fun t q1 => by
        cases hq : (R i).f.get t with
        | none => rfl
        | some z => have := h1.f t (by simp only; rw [hq]; rfl); simp only at this q1; rw [this] at q1; cases q1⟩
theorem view_tm (ok : AnyOk ops base n O R anc) (hdc : DC n anc D) (hi : i < n) (hDi : D i = false) (hr : ∀ k, (anc i).testBit k = true → D k = true) {t : Nat} (ht : t ∈ looks ops (O i)) :
    (SD O R s0 D n).1.get t = (SD O R s0 (fun _ => true) i).1.get t := by
  have h1 : ∀ k, k ≤ i → (SD O R s0 D k).1.get t = (SD O R s0 (fun _ => true) k).1.get t := by
    intro k
    induction k with
    | zero => intro _; rfl
    | succ k ih =>
      intro hk
      have ih' := ih (by omega)
      simp only [SD, if_true]
      cases hD : D k
      · simp only [Bool.false_eq_true, if_false, put_get]
        have := free_of ok hdc hi hDi hr (k := k) (by omega) (by omega) (by rw [hD]; symm; simp; omega)
        rw [if_neg (fun e => this.a t e ht)]
        exact ih'
      · simp only [if_true, put_get, ih']
  have h2 : ∀ k, i + k ≤ n → (SD O R s0 D (i + k)).1.get t = (SD O R s0 D i).1.get t := by
    intro k
    induction k with
    | zero => intro _; rfl
    | succ k ih =>
      intro hk
      have ih' := ih (by omega)
      rw [← Nat.add_assoc]
      simp only [SD]
      cases hD : D (i + k)
      · simpa using ih'
      · simp only [if_true, put_get]
        have hk0 : i + k ≠ i := by intro e; rw [e, hDi] at hD; cases hD
        have := free_of ok hdc hi hDi hr (k := i + k) (by omega) hk0 (by rw [hD]; symm; simp; omega)
        rw [if_neg (fun e => this.a t e ht)]
        exact ih'
  obtain ⟨m, rfl⟩ : ∃ m, n = i + m := ⟨n - i, by omega⟩
  rw [h2 m (Nat.le_refl _), h1 i (Nat.le_refl _)]
theorem view_hp (ok : AnyOk ops base n O R anc) (hdc : DC n anc D) (hi : i < n) (hDi : D i = false) (hr : ∀ k, (anc i).testBit k = true → D k = true) {id : Nat} (ht : id ∈ (R i).tch) :
    (SD O R s0 D n).2.get id = (SD O R s0 (fun _ => true) i).2.get id := by
  have h1 : ∀ k, k ≤ i → (SD O R s0 D k).2.get id = (SD O R s0 (fun _ => true) k).2.get id := by
    intro k
    induction k with
    | zero => intro _; rfl
    | succ k ih =>
      intro hk
      have ih' := ih (by omega)
      simp only [SD, if_true]
      cases hD : D k
      · simp only [Bool.false_eq_true, if_false, Hp.get_app]
        have := free_of ok hdc hi hDi hr (k := k) (by omega) (by omega) (by rw [hD]; symm; simp; omega)
        have hno : (R k).f.get id = none := by
          cases hq : (R k).f.get id with
          | none => rfl
          | some z => exact absurd ht (this.d id (by simp only; rw [hq]; rfl))
        rw [hno]
        exact ih'
      · simp only [if_true, Hp.get_app, ih']
  have h2 : ∀ k, i + k ≤ n → (SD O R s0 D (i + k)).2.get id = (SD O R s0 D i).2.get id := by
    intro k
    induction k with
    | zero => intro _; rfl
    | succ k ih =>
      intro hk
      have ih' := ih (by omega)
      rw [← Nat.add_assoc]
      simp only [SD]
      cases hD : D (i + k)
      · simpa using ih'
      · simp only [if_true, Hp.get_app]
        have hk0 : i + k ≠ i := by intro e; rw [e, hDi] at hD; cases hD
        have := free_of ok hdc hi hDi hr (k := i + k) (by omega) hk0 (by rw [hD]; symm; simp; omega)
        have hno : (R (i + k)).f.get id = none := by
          cases hq : (R (i + k)).f.get id with
          | none => rfl
          | some z => exact absurd ht (this.d id (by simp only; rw [hq]; rfl))
        rw [hno]
        exact ih'
  obtain ⟨m, rfl⟩ : ∃ m, n = i + m := ⟨n - i, by omega⟩
  rw [h2 m (Nat.le_refl _), h1 i (Nat.le_refl _)]
theorem add_tm (ok : AnyOk ops base n O R anc) (hdc : DC n anc D) (hi : i < n) (hDi : D i = false) (hr : ∀ k, (anc i).testBit k = true → D k = true) (t : Nat) :
    (SD O R s0 (fun j => D j || j == i) n).1.get t = if (O i).dst = some t then some (R i).v else (SD O R s0 D n).1.get t := by
  have h1 : ∀ k, k ≤ n → (SD O R s0 (fun j => D j || j == i) k).1.get t = if i < k ∧ (O i).dst = some t then some (R i).v else (SD O R s0 D k).1.get t := by
    intro k
    induction k with
    | zero => intro _; simp [SD]
    | succ k ih =>
      intro hk
      have ih' := ih (by omega)
      simp only [SD]
      by_cases hki : k = i
      · subst hki
        simp only [hDi, beq_self_eq_true, Bool.or_true, if_true, Bool.false_eq_true, if_false, put_get]
        rw [ih']
        simp only [Nat.lt_irrefl, false_and, if_false, Nat.lt_succ_self, true_and]
      · have e1 : (D k || k == i) = D k := by simp [hki]
        simp only [e1]
        cases hD : D k
        · simp only [Bool.false_eq_true, if_false, ih']
          have : i < k + 1 ↔ i < k := by omega
          simp only [this]
        · simp only [if_true, put_get, ih']
          by_cases hlt : i < k
          · have fr := free_of ok hdc hi hDi hr (k := k) (by omega) hki (by rw [hD]; symm; simpa using hlt)
            by_cases hd : (O i).dst = some t
            · have : (O k).dst ≠ some t := fun e => fr.c t e hd
              simp [hd, this, hlt, show i < k + 1 by omega]
            · simp [hd]
          · have : ¬ i < k + 1 := by omega
            simp [hlt, this]
  have := h1 n (Nat.le_refl _)
  simpa [hi] using this
theorem add_hp (ok : AnyOk ops base n O R anc) (hdc : DC n anc D) (hi : i < n) (hDi : D i = false) (hr : ∀ k, (anc i).testBit k = true → D k = true) (id : Nat) :
    (SD O R s0 (fun j => D j || j == i) n).2.get id = (Hp.app (R i).f (SD O R s0 D n).2).get id := by
  have h1 : ∀ k, k ≤ n → (SD O R s0 (fun j => D j || j == i) k).2.get id = if i < k then (Hp.app (R i).f (SD O R s0 D k).2).get id else (SD O R s0 D k).2.get id := by
    intro k
    induction k with
    | zero => intro _; simp [SD]
    | succ k ih =>
      intro hk
      have ih' := ih (by omega)
      simp only [SD]
      by_cases hki : k = i
      · subst hki
        simp only [hDi, beq_self_eq_true, Bool.or_true, if_true, Bool.false_eq_true, if_false, Nat.lt_succ_self, Hp.get_app]
        rw [ih']
        simp only [Nat.lt_irrefl, if_false]
      · have e1 : (D k || k == i) = D k := by simp [hki]
        simp only [e1]
        cases hD : D k
        · simp only [Bool.false_eq_true, if_false, ih']
          have : i < k + 1 ↔ i < k := by omega
          simp only [this]
        · simp only [if_true, Hp.get_app, ih']
          by_cases hlt : i < k
          · have fr := free_of ok hdc hi hDi hr (k := k) (by omega) hki (by rw [hD]; symm; simpa using hlt)
            simp only [hlt, if_true, show i < k + 1 by omega]
            cases hq : (R k).f.get id with
            | none => rfl
            | some z =>
              have : (R i).f.get id = none := fr.f id (by simp only; rw [hq]; rfl)
              rw [this]
          · have : ¬ i < k + 1 := by omega
            simp only [hlt, this, if_false]
  have := h1 n (Nat.le_refl _)
  simpa [hi] using this
/-- A name that is told in what the set D has come to: an old one, or one of an operation of the set. -/
def Told (base : Nat) (c : Nat → Nat) (D : Nat → Bool) (n : Nat) (id : Nat) : Prop := id < base ∨ ∃ j, j < n ∧ D j = true ∧ Rg (c j) (c (j + 1)) id
theorem mono_c {c : Nat → Nat} {n : Nat} (hc : ∀ j, j < n → c j ≤ c (j + 1)) : ∀ i j, i ≤ j → j ≤ n → c i ≤ c j := by
  intro i j hij
  induction j with
  | zero => intro _; have : i = 0 := by omega
            subst this; exact Nat.le_refl _
  | succ j ih =>
    intro hj
    by_cases e : i = j + 1
    · subst e; exact Nat.le_refl _
    · exact Nat.le_trans (ih (by omega) (by omega)) (hc j (by omega))
theorem Told.ne {c : Nat → Nat} (hc : ∀ j, j < n → c j ≤ c (j + 1)) (h0 : c 0 = base) (hi : i < n) (hDi : D i = false) {id : Nat} (h : Told base c D n id) : ¬ Rg (c i) (c (i + 1)) id := by
  intro q
  rcases h with h | ⟨j, hj, hD, h⟩
  · have := mono_c hc 0 i (by omega) (by omega)
    have := q.1
    omega
  · have hne : i ≠ j := by rintro rfl; rw [hDi] at hD; cases hD
    rcases Nat.lt_or_ge j i with hlt | hge
    · have := mono_c hc (j + 1) i (by omega) (by omega)
      have := q.1
      have := h.2
      omega
    · have := mono_c hc (i + 1) j (by omega) (by omega)
      have := q.2
      have := h.1
      omega
theorem ids_get {f : Hp} {k : Nat} {x : Option Ob} (h : f.get k = some x) : k ∈ Hp.ids f ∧ ∀ o, x = some o → ∀ m ∈ o.ids, m ∈ Hp.ids f := by
  induction f with
  | nil => simp [Hp.get_nil] at h
  | cons p f ih =>
    obtain ⟨j, b⟩ := p
    rw [Hp.get_cons] at h
    split at h
    · rename_i e
      cases h
      subst e
      cases x with
      | none => exact ⟨List.mem_cons_self .., fun o q => by cases q⟩
      | some o => exact ⟨by simp [Hp.ids], fun o' q m hm => by cases q; simp [Hp.ids, hm]⟩
    · have := ih h
      cases b with
      | none => exact ⟨List.mem_cons_of_mem _ this.1, fun o q m hm => List.mem_cons_of_mem _ (this.2 o q m hm)⟩
      | some o => exact ⟨by simp [Hp.ids, this.1], fun o' q m hm => by simp [Hp.ids, this.2 o' q m hm]⟩
theorem told_op (ok : AnyOk ops base n O R anc) {c : Nat → Nat} (hRc : ∀ j, j < n → (R j).n0 = c j ∧ (R j).n = c (j + 1)) (hdc : DC n anc D) {k : Nat} (hk : k < n) (hD : D k = true) : ∀ id ∈ (R k).v.ids ++ (R k).f.ids, Told base c D n id := by
  intro id hid
  rcases ok.c2 k hk id hid with h | h | ⟨j, hj, hb, h⟩
  · exact .inl h
  · rw [(hRc k hk).1, (hRc k hk).2] at h; exact .inr ⟨k, hk, hD, h⟩
  · rw [(hRc j (by omega)).1, (hRc j (by omega)).2] at h; exact .inr ⟨j, by omega, hdc k hk hD j hb, h⟩
theorem told_tm (ok : AnyOk ops base n O R anc) {c : Nat → Nat} (hRc : ∀ j, j < n → (R j).n0 = c j ∧ (R j).n = c (j + 1)) (hdc : DC n anc D) (tb : TmLow base s0.1) : ∀ k, k ≤ n → ∀ t s, (SD O R s0 D k).1.get t = some s → ∀ id ∈ s.ids, Told base c D n id := by
  intro k
  induction k with
  | zero => intro _ t s hs id hid; exact .inl (tb id (Tm.get_ids hs id hid))
  | succ k ih =>
    intro hk t s hs id hid
    simp only [SD] at hs
    cases hD : D k
    · rw [hD] at hs; exact ih (by omega) t s hs id hid
    · rw [hD] at hs
      simp only [if_true, put_get] at hs
      split at hs
      · cases hs
        exact told_op ok hRc hdc (by omega) hD id (List.mem_append_left _ hid)
      · exact ih (by omega) t s hs id hid
theorem told_hp (ok : AnyOk ops base n O R anc) {c : Nat → Nat} (hRc : ∀ j, j < n → (R j).n0 = c j ∧ (R j).n = c (j + 1)) (hdc : DC n anc D) (hb : DLow base s0.2) :
    ∀ k, k ≤ n → ∀ j x, (SD O R s0 D k).2.get j = some x → Told base c D n j ∧ ∀ o, x = some o → ∀ id ∈ o.ids, Told base c D n id := by
  intro k
  induction k with
  | zero =>
    intro _ j x hj
    have := hb j x hj
    exact ⟨.inl this.1, fun o ho id hid => .inl (this.2 o ho id hid)⟩
  | succ k ih =>
    intro hk j x hj
    simp only [SD] at hj
    cases hD : D k
    · rw [hD] at hj; exact ih (by omega) j x hj
    · rw [hD] at hj
      simp only [if_true, Hp.get_app] at hj
      split at hj
      · rename_i y hy
        cases hj
        have q := ids_get hy
        exact ⟨told_op ok hRc hdc (by omega) hD _ (List.mem_append_right _ q.1), fun o ho id hid => told_op ok hRc hdc (by omega) hD _ (List.mem_append_right _ (q.2 o ho id hid))⟩
      · exact ih (by omega) j x hj
end any
theorem count_add (D : Nat → Bool) (i : Nat) (hDi : D i = false) : ∀ n, (List.range n).countP (fun j => D j || j == i) = (List.range n).countP D + if i < n then 1 else 0 := by
  intro n
  induction n with
  | zero => simp
  | succ n ih =>
    rw [List.range_succ, List.countP_append, List.countP_append, ih]
    by_cases h : n = i
    · subst h
      simp [hDi]
    · have e : (D n || n == i) = D n := by simp [h]
      simp only [List.countP_cons, List.countP_nil, e]
      by_cases h2 : i < n
      · have : i < n + 1 := by omega
        simp [h2, this]; omega
      · have : ¬ i < n + 1 := by omega
        simp [h2, this]
theorem count_all (D : Nat → Bool) (n : Nat) (h : (List.range n).countP D = n) : ∀ i, i < n → D i = true := by
  have := List.countP_eq_length.1 (h.trans (by simp : n = (List.range n).length))
  exact fun i hi => this i (List.mem_range.2 hi)
theorem SD_all {O : Nat → Oper} {R : Nat → Rr} {s0 : Tm × Hp} {D : Nat → Bool} : ∀ n, (∀ i, i < n → D i = true) → SD O R s0 D n = SD O R s0 (fun _ => true) n
  | 0, _ => rfl
  | n + 1, h => by
    simp only [SD, h n (by omega), if_true, SD_all n (fun i hi => h i (by omega))]
theorem SD_canon {O : Nat → Oper} {R : Nat → Rr} {F : Nat → Tm × Hp} {n : Nat} (h : ∀ i, i < n → F (i + 1) = ((F i).1.put (O i).dst (R i).v, (R i).f.app (F i).2)) : ∀ k, k ≤ n → SD O R (F 0) (fun _ => true) k = F k
  | 0, _ => rfl
  | k + 1, hk => by
    simp only [SD, if_true, SD_canon h k (by omega)]
    exact (h k (by omega)).symm

theorem any_sound {call : CallF} {W0 : World} (hcall : CallOk P ρ W0 call) {rd : Option Nat} {nt base nx : Nat} {mk : List Nat} {ops : Array Oper} {α0 : Nat → Pl} {h0 : Vw} {W : World} (cx : Cx ρ W0 α0 h0 W nx) (hnb : nx ≤ base) {O : Nat → Oper} {R : Nat → Rr} {anc : Nat → Nat} (ok : AnyOk ops base ops.size O R anc)
    (hO : ∀ i, i < ops.size → ops[i]? = some (O i)) (hd : ∀ i, i < ops.size → ∀ t, (O i).dst = some t → t < nt) {F : Nat → Tm × Hp} {c : Nat → Nat} (hc0 : c 0 = base) (hF : ∀ i, i < ops.size → StepOk P ρ call h0 ops (F i) (F (i + 1)) (O i) (R i) (c i) (c (i + 1)))
    (tb : TmLow base (F 0).1) (hb : DLow base (F 0).2) (hmk : ∀ m ∈ mk, m < base) {αs : Nat → Pl} {Q : Exit → Act → World → Prop}
    (hQ : ∀ α' a' w', RA ρ α' nt (F ops.size).1 mk a' → Inv ρ α0 h0 W (Rg nx (c ops.size)) α' w' (F ops.size).2 → (∀ m, m < base → α' m = αs m) → Q .normal a' w') :
    ∀ (fuel : Nat) (listed : Array Bool) (α : Nat → Pl) (a : Act) (w : World), listed.size = ops.size → fuel + (List.range ops.size).countP (fun j => listed.getD j false) = ops.size →
      DC ops.size anc (fun j => listed.getD j false) → RA ρ α nt (SD O R (F 0) (fun j => listed.getD j false) ops.size).1 mk a →
      Inv ρ α0 h0 W (fun i => Rg nx base i ∨ ∃ j, j < ops.size ∧ listed.getD j false = true ∧ Rg (c j) (c (j + 1)) i) α w (SD O R (F 0) (fun j => listed.getD j false) ops.size).2 → (∀ m, m < base → α m = αs m) →
      wpAnyIn (FW rd) 0 P .any ops Q fuel listed a w := by
  have hcan : ∀ k, k ≤ ops.size → SD O R (F 0) (fun _ => true) k = F k := SD_canon fun i hi => by
    obtain ⟨h1, h2, _⟩ := hF i hi
    exact Prod.ext h1 h2
  have hRc : ∀ j, j < ops.size → (R j).n0 = c j ∧ (R j).n = c (j + 1) := fun j hj => ⟨(hF j hj).2.2.1, (hF j hj).2.2.2.1⟩
  have hcm : ∀ j, j < ops.size → c j ≤ c (j + 1) := fun j hj => (hF j hj).2.2.2.2.1
  have hcb : ∀ j, j ≤ ops.size → base ≤ c j := fun j hj => by have := mono_c hcm 0 j (by omega) hj; omega
  -- what the written order tells
  have hcl : ∀ k, k ≤ ops.size → TmLow (c k) (F k).1 ∧ DLow (c k) (F k).2 := by
    intro k
    induction k with
    | zero => intro _; rw [hc0]; exact ⟨tb, hb⟩
    | succ k ih =>
      intro hk
      obtain ⟨i1, i2⟩ := ih (by omega)
      obtain ⟨h1, h2, _, _, h5, pc, wt, _, _, h3⟩ := hF k (by omega)
      rw [h1, h2]
      cases wt
      · simp only [Bool.false_eq_true, if_false] at h3
        rw [h3]
        exact ⟨(i1.mono h5).put _ rfl, DLow.app (fun _ _ e => by simp [Hp.get_nil] at e) (i2.mono h5)⟩
      · simp only [if_true] at h3
        obtain ⟨_, _, h6, h7⟩ := h3
        exact ⟨(i1.mono h5).put _ h6, (told_low h7).app (i2.mono h5)⟩
  have fin : ∀ (listed : Array Bool) (α : Nat → Pl) (a : Act) (w : World), (∀ i, i < ops.size → listed.getD i false = true) → RA ρ α nt (SD O R (F 0) (fun j => listed.getD j false) ops.size).1 mk a →
      Inv ρ α0 h0 W (fun i => Rg nx base i ∨ ∃ j, j < ops.size ∧ listed.getD j false = true ∧ Rg (c j) (c (j + 1)) i) α w (SD O R (F 0) (fun j => listed.getD j false) ops.size).2 → (∀ m, m < base → α m = αs m) → Q .normal a w := by
    intro listed α a w hall ra hI hα
    have e : SD O R (F 0) (fun j => listed.getD j false) ops.size = F ops.size := (SD_all ops.size hall).trans (hcan _ (Nat.le_refl _))
    rw [e] at ra hI
    have hsub : ∀ i, (Rg nx base i ∨ ∃ j, j < ops.size ∧ listed.getD j false = true ∧ Rg (c j) (c (j + 1)) i) → Rg nx (c ops.size) i := by
      rintro i (q | ⟨j, hj, _, q⟩)
      · exact ⟨q.1, Nat.lt_of_lt_of_le q.2 (hcb _ (Nat.le_refl _))⟩
      · exact ⟨Nat.le_trans (Nat.le_trans hnb (hcb j (by omega))) q.1, Nat.lt_of_lt_of_le q.2 (mono_c hcm (j + 1) ops.size (by omega) (Nat.le_refl _))⟩
    exact hQ α a w ra ⟨hI.up.names hI.ok hsub fun i o ho q => by have := (cx.low i o ho).1; have := q.1; omega, hI.ok.names hsub⟩ hα
  intro fuel
  induction fuel with
  | zero =>
    intro listed α a w hs hc hdc ra hI hα
    have hall := count_all _ _ (by omega : (List.range ops.size).countP (fun j => listed.getD j false) = ops.size)
    refine ⟨?_, fin listed α a w hall ra hI hα⟩
    rw [List.eq_nil_iff_forall_not_mem]
    intro j hj
    obtain ⟨h1, o, ho, _⟩ := mem_ready.1 hj
    have hj' : j < ops.size := (Array.getElem?_eq_some_iff.1 ho).1
    have := hall j hj'
    rw [Array.getD_eq_getD_getElem?] at this h1
    simp only [show j < listed.size by omega, Array.getElem?_eq_getElem, Option.getD_some] at this h1
    rw [this] at h1
    cases h1
  | succ fuel ih =>
    intro listed α a w hs hc hdc ra hI hα
    have hgd : ∀ j, j < ops.size → listed.getD j true = listed.getD j false := by
      intro j hj
      simp only [Array.getD_eq_getD_getElem?, show j < listed.size by omega, Array.getElem?_eq_getElem, Option.getD_some]
    refine ⟨fun hnil => ?_, fun i hi => ?_⟩
    · refine fin listed α a w ?_ ra hI hα
      intro i
      induction i using Nat.strongRecOn with
      | ind i ihi =>
        intro hi
        cases hl : listed.getD i false with
        | true => rfl
        | false =>
          have : i ∈ Region.ready .any ops listed := mem_ready.2 ⟨by rw [hgd i hi]; exact hl, O i, hO i hi, fun e he hbd => by
            have hlt := ok.c3 i hi e he hbd
            exact ihi e.on hlt (by omega)⟩
          rw [hnil] at this
          cases this
    · obtain ⟨h1, o, ho, hafter⟩ := mem_ready.1 hi
      have hi' : i < ops.size := (Array.getElem?_eq_some_iff.1 ho).1
      have hoi : o = O i := by rw [hO i hi'] at ho; exact (Option.some.inj ho).symm
      subst hoi
      have hDi : listed.getD i false = false := by rw [← hgd i hi']; exact h1
      have hr : ∀ k, (anc i).testBit k = true → listed.getD k false = true := by
        intro k hk
        obtain ⟨e, he, hbd, hk' | hk'⟩ := ok.c4 i k hi' hk
        · rw [hk']; exact hafter e he hbd
        · exact hdc e.on (by have := ok.c3 i hi' e he hbd; omega) (hafter e he hbd) k hk'
      have hset : (fun j => (listed.setIfInBounds i true).getD j false) = (fun j => listed.getD j false || j == i) := by
        funext j
        simp only [Array.getD_eq_getD_getElem?, Array.getElem?_setIfInBounds]
        by_cases hji : i = j
        · subst hji; simp [show i < listed.size by omega]
        · simp [hji, show ¬ j = i by omega]
      obtain ⟨e1, e2, _, _, hcc, pc, wt, hpc, hg, h3⟩ := hF i hi'
      have hFi : SD O R (F 0) (fun _ => true) i = F i := hcan i (by omega)
      have hvt : ∀ t ∈ looks ops (O i), ∀ s, (F i).1.get t = some s → a.tmps[t]? = some (s.den ρ α) := by
        intro t ht s hs'
        have := view_tm (s0 := F 0) ok hdc hi' hDi hr ht
        rw [hFi] at this
        exact ra.get t s (by rw [this]; exact hs')
      have hw := guard_wanted hg hvt
      have hRx : ∀ k, (Rg nx base k ∨ ∃ j, j < ops.size ∧ listed.getD j false = true ∧ Rg (c j) (c (j + 1)) k) → nx ≤ k := by
        rintro k (q | ⟨j, hj, _, q⟩)
        · exact q.1
        · exact Nat.le_trans (Nat.le_trans hnb (hcb j (by omega))) q.1
      have toldV : ∀ id o, ((SD O R (F 0) (fun j => listed.getD j false) ops.size).2.over h0) id = some o → ¬ Rg (c i) (c (i + 1)) id ∧ ∀ m ∈ o.ids, ¬ Rg (c i) (c (i + 1)) m := by
        intro id o ho'
        cases hq : (SD O R (F 0) (fun j => listed.getD j false) ops.size).2.get id with
        | some x =>
          rw [over_some hq] at ho'
          subst ho'
          obtain ⟨t1, t2⟩ := told_hp (s0 := F 0) ok hRc hdc hb _ (Nat.le_refl _) id _ hq
          exact ⟨t1.ne hcm hc0 hi' hDi, fun m hm => (t2 o rfl m hm).ne hcm hc0 hi' hDi⟩
        | none =>
          rw [over_none hq] at ho'
          have q := cx.low id o ho'
          have := hcb i (by omega)
          exact ⟨fun p => by have := p.1; have := q.1; omega, fun m hm p => by have := p.1; have := q.2 m hm; omega⟩
      -- behind it
      have next : ∀ (α' : Nat → Pl) (v : Value) (w' : World), (∀ id, ¬ Rg (c i) (c (i + 1)) id → α' id = α id) → v = (R i).v.den ρ α' →
          Inv ρ α0 h0 W (fun k => (Rg nx base k ∨ ∃ j, j < ops.size ∧ listed.getD j false = true ∧ Rg (c j) (c (j + 1)) k) ∨ Rg (c i) (c (i + 1)) k) α' w' (Hp.app (R i).f (SD O R (F 0) (fun j => listed.getD j false) ops.size).2) →
          wpAnyIn (FW rd) 0 P .any ops Q fuel (listed.setIfInBounds i true) (a.put (O i).dst v) w' := by
        intro α' v w' hα' hv hI'
        have hbase : ∀ m, m < base → α' m = α m := fun m hm => hα' m fun q => by have := q.1; have := hcb i (by omega); omega
        refine ih (listed.setIfInBounds i true) α' _ w' (by simp [hs]) ?_ ?_ ?_ ?_ fun m hm => (hbase m hm).trans (hα m hm)
        · rw [hset, count_add _ i hDi]; simp only [hi', if_true]; omega
        · rw [hset]
          intro j hj hDj k hk
          simp only [Bool.or_eq_true, beq_iff_eq] at hDj ⊢
          rcases hDj with h | h
          · exact .inl (hdc j hj h k hk)
          · subst h; exact .inl (hr k hk)
        · rw [hset]
          have rp := RA.put (ra.congr (α' := α') (fun t s hs' m hm => (hα' m ((told_tm (s0 := F 0) ok hRc hdc tb _ (Nat.le_refl _) t s hs' m hm).ne hcm hc0 hi' hDi)).symm) fun m hm => (hbase m (hmk m hm)).symm) (hd i hi') (R i).v
          rw [← hv] at rp
          refine ⟨fun t s hs' => rp.get t s ?_, rp.size, rp.defers⟩
          rw [add_tm (s0 := F 0) ok hdc hi' hDi hr] at hs'
          rw [put_get]
          exact hs'
        · rw [hset]
          have eR : ∀ k, ((Rg nx base k ∨ ∃ j, j < ops.size ∧ listed.getD j false = true ∧ Rg (c j) (c (j + 1)) k) ∨ Rg (c i) (c (i + 1)) k) ↔ (Rg nx base k ∨ ∃ j, j < ops.size ∧ (fun j => listed.getD j false || j == i) j = true ∧ Rg (c j) (c (j + 1)) k) := by
            intro k
            constructor
            · rintro ((q | ⟨j, q1, q2, q3⟩) | q)
              · exact .inl q
              · exact .inr ⟨j, q1, by simp only [q2, Bool.true_or], q3⟩
              · exact .inr ⟨i, hi', by simp, q⟩
            · rintro (q | ⟨j, q1, q2, q3⟩)
              · exact .inl (.inl q)
              · simp only [Bool.or_eq_true, beq_iff_eq] at q2
                rcases q2 with q2 | q2
                · exact .inl (.inr ⟨j, q1, q2, q3⟩)
                · subst q2; exact .inr q3
          have hset' : ∀ j, (listed.setIfInBounds i true).getD j false = (listed.getD j false || j == i) := fun j => congrFun hset j
          have eR2 : (fun k => Rg nx base k ∨ ∃ j, j < ops.size ∧ (listed.setIfInBounds i true).getD j false = true ∧ Rg (c j) (c (j + 1)) k) = (fun k => (Rg nx base k ∨ ∃ j, j < ops.size ∧ listed.getD j false = true ∧ Rg (c j) (c (j + 1)) k) ∨ Rg (c i) (c (i + 1)) k) := by
            funext k
            refine propext ⟨fun q => (eR k).2 ?_, fun q => ?_⟩
            · rcases q with q | ⟨j, q1, q2, q3⟩
              · exact .inl q
              · exact .inr ⟨j, q1, by rw [hset'] at q2; exact q2, q3⟩
            · rcases (eR k).1 q with q | ⟨j, q1, q2, q3⟩
              · exact .inl q
              · exact .inr ⟨j, q1, by rw [hset']; exact q2, q3⟩
          rw [eR2]
          exact ⟨hI'.up.same fun id => add_hp (s0 := F 0) ok hdc hi' hDi hr id, hI'.ok.same fun id => add_hp (s0 := F 0) ok hdc hi' hDi hr id⟩
      unfold wpOpIn
      simp only [ho]
      rw [hw]
      cases wt
      · simp only [Bool.false_eq_true, if_false] at h3 ⊢
        refine ⟨fun _ _ => trivial, next α _ w (fun _ _ => rfl) (by rw [h3]; rfl) ?_⟩
        rw [h3]
        have e : ∀ id, (Hp.app ([] : Hp) (SD O R (F 0) (fun j => listed.getD j false) ops.size).2).get id = (SD O R (F 0) (fun j => listed.getD j false) ops.size).2.get id := fun id => by rw [Hp.get_app]; rfl
        have hx : ∀ k o', h0 k = some o' → ¬ ((Rg nx base k ∨ ∃ j, j < ops.size ∧ listed.getD j false = true ∧ Rg (c j) (c (j + 1)) k) ∨ Rg (c i) (c (i + 1)) k) := fun k o' hk q => by
          have q1 := (cx.low k o' hk).1
          rcases q with q | q
          · have := hRx k q; omega
          · have := q.1; have := hcb i (by omega); omega
        exact ⟨(hI.up.names hI.ok (fun _ q => .inl q) hx).same e, (hI.ok.names fun _ q => .inl q).same e⟩
      · simp only [if_true] at h3 ⊢
        obtain ⟨⟨pc', h4⟩, hdk, hvb, hft⟩ := h3
        obtain ⟨i1, i2⟩ := hcl i (by omega)
        have hlowC : LowV (c i) ((F i).2.over h0) := over_low i2 cx.low (Nat.le_trans hnb (hcb i (by omega)))
        obtain ⟨DK, hkt⟩ := dOk_spec hdk
        have hview : ∀ id, id ∈ (R i).tch → ((F i).2.over h0) id = ((SD O R (F 0) (fun j => listed.getD j false) ops.size).2.over h0) id := fun id hid => by
          have := view_hp (s0 := F 0) ok hdc hi' hDi hr hid
          rw [hFi] at this
          simp only [Hp.over, this]
        have hobs := inv_obs cx hRx hI
        have hs' := op_sound hcall (rd := rd) hpc h4 (α := α) (a := a) (w := w) (fun x hx s he => by
          refine ⟨?_, ev_low i1 he⟩
          cases x with
          | tmp t =>
            have hl : t ∈ looks ops (O i) := List.mem_append.2 (.inl (List.mem_filterMap.2 ⟨.tmp t, by simpa using hx, rfl⟩))
            have := hvt t hl s he
            simp [Act.eval, Array.getD_eq_getD_getElem?, this]
          | const v => exact (cst_den ρ α he).symm
          | global g => simp [ev] at he
          | func f => simp [ev] at he; subst he; rfl) hlowC (inv_below cx hI) (hobs.sub fun j o' e => by
            simp only at e
            split at e
            · rename_i hj; rw [← hview j hj]; exact e
            · cases e)
        refine hs'.2 _ _ fun v w' hv => ?_
        obtain ⟨α', hv1, U⟩ := hv
        have old : ∀ j, ((R i).f.get j).isSome = true → ∀ o', ((F i).2.over h0) j = some o' → j ∈ (R i).tch := fun j hj o' ho' => by
          rcases hkt j hj with q | q
          · have := (hlowC j o' ho').1; have := q.1; omega
          · exact q
        have U' : Upd (Rg (c i) (c (i + 1))) ρ α α' ((SD O R (F 0) (fun j => listed.getD j false) ops.size).2.over h0) w w' (R i).f := U.more fun j o' hj ho' => by
          rw [← hview j (old j hj o' ho')]; exact ho'
        have D' : DOk (Rg (c i) (c (i + 1))) ((SD O R (F 0) (fun j => listed.getD j false) ops.size).2.over h0) (R i).f := fun k x hk => by
          rcases DK k x hk with q | ⟨o', p1, p2⟩
          · exact .inl q
          · exact .inr ⟨o', by rw [← hview k (old k (by rw [hk]; rfl) o' p1)]; exact p1, p2⟩
        exact next α' v w' U.al hv1 (inv_step cx hRx hI (Nat.le_trans hnb (hcb i (by omega))) toldV U' D' fun k => Iff.rfl)
end
end Go.Proofs.Ytmpadjlplgajcaa
