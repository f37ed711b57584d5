/- The executor's laws: a region that draws its order: where what depends on one another is ordered, every order comes to what the written order comes to. -/
import Derived.Test.YtinnlahmlepeeaaDoorExE
import Derived.Orders
namespace Go.Proofs.YtinnlahmlepeeaaDoor
open Go.RowKit
section
variable {ρ : EnvS} {P : Program}
def GuardIs (ρ : EnvS) (ops : Array Oper) (tm : Tm) (o : Oper) (w : Bool) : Prop :=
  match o.guard with
  | none => w = true
  | some (j, want) => ∃ t, (ops[j]?).bind (·.dst) = some t ∧ ((∃ b, tm.get t = some (.one (.bool b)) ∧ w = (b.den ρ == want)) ∨ (∃ vs, tm.get t = some (.tup vs) ∧ w = false))
theorem guard_canon {β : Type} {tm : Tm} {pc : PC} (hpc : pc.Ok ρ) {ops : Array Oper} {o : Oper} {k : PC → Bool → T β} {out : β} (h : (guardE ops tm pc o k).pick ρ = some out) :
    ∃ pc' w, pc'.Ok ρ ∧ GuardIs ρ ops tm o w ∧ (k pc' w).pick ρ = some out := by
  unfold guardE at h
  unfold GuardIs
  split at h
  · rename_i e; exact ⟨pc, true, hpc, by rw [e], h⟩
  · rename_i j want e
    rw [e]
    split at h
    · exact (T.bad_some h).elim
    · rename_i t ht
      split at h
      · rename_i b hb
        obtain ⟨pc', h1, h2⟩ := T.cond_some hpc h
        exact ⟨pc', _, h1, ⟨t, ht, .inl ⟨b, hb, rfl⟩⟩, h2⟩
      · rename_i vs hb
        exact ⟨pc, false, hpc, ⟨t, ht, .inr ⟨vs, hb, rfl⟩⟩, h⟩
      · exact (T.bad_some h).elim
theorem guard_wanted {α : Nat → Nat} {tm : Tm} {a : Act} {ops : Array Oper} {o : Oper} {w : Bool} (h : GuardIs ρ ops tm o w) (hg : ∀ t ∈ o.looksAt ops, ∀ s, tm.get t = some s → a.tmps[t]? = some (s.den ρ α)) :
    Region.wanted o (yielded ops a.tmps) = w := by
  unfold GuardIs at h
  unfold Region.wanted
  unfold Oper.looksAt at hg
  split at h
  · rename_i e; rw [e]; exact h.symm
  · rename_i j want e
    rw [e] at hg ⊢
    obtain ⟨t, ht, h⟩ := h
    have hm := hg t (List.mem_append.2 (.inr (by simp [ht])))
    simp only
    rcases h with ⟨b, hb, rfl⟩ | ⟨vs, hb, rfl⟩
    · have : yielded ops a.tmps j = some (b.den ρ) := by
        unfold yielded
        rw [ht]
        simp only [Option.bind_some, hm _ hb, SV.den, SCl.den]
      rw [this]
      cases b.den ρ <;> cases want <;> rfl
    · have : yielded ops a.tmps j = none := by
        unfold yielded
        rw [ht]
        simp only [Option.bind_some, hm _ hb, SV.den]
      rw [this]
      rfl
theorem val_pc {pc : PC} {x : Option SV} {r : Res} (h : (val pc x).pick ρ = some r) : r.2.2 = pc := by
  obtain ⟨v, _, rfl⟩ := val_some h
  rfl
theorem opE_pc {call : CallF} {W0 : World} (hcall : CallOk P ρ W0 call) {lo : Nat} {pc : PC} (hpc : pc.Ok ρ) {e : Operand → Option SV} {h : Nat → Option Blk} {fresh : Nat} {o : Oper} {r : Res}
    (hr : (opE P call lo pc e h fresh o).pick ρ = some r) : r.2.2.Ok ρ := by
  obtain ⟨dst, op, type, pos, after, guard⟩ := o
  cases op with
  | pick c x y =>
    simp only [opE] at hr
    split at hr
    · obtain ⟨pc', h1, h2⟩ := T.cond_some hpc hr
      rw [val_pc h2]; exact h1
    · exact (T.bad_some hr).elim
  | binOp op t x y ty =>
    simp only [opE] at hr
    repeat' split at hr
    all_goals first
      | exact (T.bad_some hr).elim
      | (rw [val_pc hr]; exact hpc)
      | (obtain ⟨pc', h1, h2⟩ := T.cond_some hpc hr
         first
           | (rw [val_pc h2]; exact h1)
           | (split at h2
              · exact (T.bad_some h2).elim
              · (rw [val_pc h2]; exact h1)))
  | call c =>
    simp only [opE] at hr
    repeat' split at hr
    all_goals first
      | exact (T.bad_some hr).elim
      | (rw [val_pc hr]; exact hpc)
      | skip
    rename_i g args hf hargs hc _ hp hhp
    simp only [Bool.and_eq_true, List.all_eq_true] at hc
    obtain ⟨⟨v, pc'⟩, h1, h2⟩ := T.bind_some hr
    split at h2
    · have := T.ret_some h2
      subst this
      exact (hcall g args hp fresh pc v pc' hpc h1 hc.2 hc.1 (fun id b hg => by
        obtain ⟨g1, _, g3⟩ := argHp_get hhp hg
        obtain ⟨s, hs, hi⟩ := List.mem_flatMap.1 g1
        exact ⟨below_ids (hc.1 s hs) id hi, g3⟩)).1
    · exact (T.bad_some h2).elim
  | _ =>
    simp only [opE] at hr
    repeat' split at hr
    all_goals first
      | exact (T.bad_some hr).elim
      | (rw [val_pc hr]; exact hpc)
      | (have := T.ret_some hr; subst this; exact hpc)
/-- One step of the written order. -/
def StepOk (P : Program) (ρ : EnvS) (call : CallF) (lo base : Nat) (ops : Array Oper) (s s' : Tm × Hp) (o : Oper) (r : Rr) (i : Nat) : Prop :=
  s'.1 = s.1.put o.dst r.v ∧ s'.2 = r.f.app s.2 ∧ ∃ pc w, pc.Ok ρ ∧ GuardIs ρ ops s.1 o w ∧
    (if w = true then (∃ pc', (opE P call lo pc (ev s.1) (fun id => s.2.get id) (base + i) o).pick ρ = some (r.v, r.f, pc')) ∧ r.tch = touch (ev s.1) o else r = ⟨.tup [], .nop, []⟩)
theorem seq_canon {call : CallF} {W0 : World} (hcall : CallOk P ρ W0 call) {lo base : Nat} {ops : Array Oper} :
    ∀ (l : List Oper) (i : Nat) (pc : PC) (tm : Tm) (h : Hp) (acc : List Rr) {out : PC × Tm × Hp × List Rr}, (seqE P call lo ops base l i pc tm h acc).pick ρ = some out → pc.Ok ρ →
      ∃ (F : Nat → Tm × Hp) (rs : List Rr), out.2.2.2 = acc.reverse ++ rs ∧ rs.length = l.length ∧ F i = (tm, h) ∧ F (i + l.length) = (out.2.1, out.2.2.1) ∧ out.1.Ok ρ ∧
        ∀ k o r, l[k]? = some o → rs[k]? = some r → StepOk P ρ call lo base ops (F (i + k)) (F (i + k + 1)) o r (i + k)
  | [], i, pc, tm, h, acc, out, hr, hpc => by
    have := T.ret_some hr
    subst this
    exact ⟨fun _ => (tm, h), [], by simp, rfl, rfl, rfl, hpc, fun k o r hk => by simp at hk⟩
  | o :: l, i, pc, tm, h, acc, out, hr, hpc => by
    simp only [seqE] at hr
    obtain ⟨pc', w, hpc', hg, h1⟩ := guard_canon hpc hr
    have key : ∀ (pc2 : PC) (r : Rr), pc2.Ok ρ → (seqE P call lo ops base l (i + 1) pc2 (tm.put o.dst r.v) (r.f.app h) (r :: acc)).pick ρ = some out →
        (if w = true then (∃ pc'', (opE P call lo pc' (ev tm) (fun id => h.get id) (base + i) o).pick ρ = some (r.v, r.f, pc'')) ∧ r.tch = touch (ev tm) o else r = ⟨.tup [], .nop, []⟩) →
        ∃ (F : Nat → Tm × Hp) (rs : List Rr), out.2.2.2 = acc.reverse ++ rs ∧ rs.length = (o :: l).length ∧ F i = (tm, h) ∧ F (i + (o :: l).length) = (out.2.1, out.2.2.1) ∧ out.1.Ok ρ ∧
          ∀ k o' r, (o :: l)[k]? = some o' → rs[k]? = some r → StepOk P ρ call lo base ops (F (i + k)) (F (i + k + 1)) o' r (i + k) := by
      intro pc2 r h2 h3 h4
      obtain ⟨F, rs, e1, e2, e3, e4, e5, e6⟩ := seq_canon hcall l (i + 1) pc2 _ _ _ h3 h2
      refine ⟨fun j => if j = i then (tm, h) else F j, r :: rs, by simp [e1], by simp [e2], by simp, ?_, e5, ?_⟩
      · have : i + (o :: l).length ≠ i := by simp
        simp only [this, if_false]
        rw [← e4]
        congr 1
        simp only [List.length_cons]
        omega
      · intro k o' r' hk hr'
        cases k with
        | zero =>
          simp only [List.getElem?_cons_zero, Option.some.injEq] at hk hr'
          subst hk
          subst hr'
          have q : i + 0 + 1 ≠ i := by omega
          simp only [Nat.add_zero, if_true, show i + 1 ≠ i by omega, if_false, e3]
          exact ⟨rfl, rfl, pc', w, hpc', hg, h4⟩
        | succ k =>
          rw [List.getElem?_cons_succ] at hk hr'
          have := e6 k o' r' hk hr'
          have q1 : i + (k + 1) ≠ i := by omega
          have q2 : i + (k + 1) + 1 ≠ i := by omega
          simp only [q1, q2, if_false]
          rw [show i + (k + 1) = i + 1 + k by omega]
          exact this
    cases w
    · simp only [Bool.false_eq_true, if_false] at h1
      exact key pc' ⟨.tup [], .nop, []⟩ hpc' h1 (by simp)
    · simp only [if_true] at h1
      obtain ⟨⟨v, f, pc2⟩, h2, h3⟩ := T.bind_some h1
      simp only at h3
      split at h3
      · have hpc2 : pc2.Ok ρ := opE_pc hcall hpc' h2
        exact key pc2 ⟨v, f, touch (ev tm) o⟩ hpc2 h3 (by simp only [if_true]; exact ⟨⟨pc2, h2⟩, trivial⟩)
      · exact (T.bad_some h3).elim

/-! ### Any order -/
def Eff.at (f : Eff) (id : Nat) (x : Option Blk) : Option Blk :=
  match f with
  | .nop => x
  | .st j cs => if j = id then x.map (fun b => ⟨b.elem, cs⟩) else x
  | .al j el cs => if j = id then some ⟨el, cs⟩ else x
theorem app_at (f : Eff) (h : Hp) (id : Nat) : (f.app h).get id = f.at id (h.get id) := by
  cases f with
  | nop => rfl
  | st j cs =>
    simp only [Eff.app, Eff.at]
    split
    · rename_i b hb
      rw [Hp.get_cons]
      split
      · rename_i e; subst e; rw [hb]; rfl
      · rfl
    · rename_i hb
      split
      · rename_i e; subst e; rw [hb]; rfl
      · rfl
  | al j el cs => simp only [Eff.app, Eff.at, Hp.get_cons]
theorem at_other {f : Eff} {id : Nat} (h : f.wr ≠ some id) (x : Option Blk) : f.at id x = x := by
  cases f <;> simp only [Eff.wr, ne_eq, Option.some.injEq] at h <;> simp only [Eff.at] <;> first | rfl | rw [if_neg h]
theorem put_get (tm : Tm) (d : Option Tmp) (v : SV) (t : Nat) : (tm.put d v).get t = if d = some t then some v else tm.get t := by
  cases d with
  | none => simp [Tm.put]
  | some u => simp [Tm.put, Tm.get_cons]
/-- What the operations of the set D have come to, in the written order, up to number k. -/
def SD (O : Nat → Oper) (R : Nat → Rr) (s0 : Tm × Hp) (D : Nat → Bool) : Nat → Tm × Hp
  | 0 => s0
  | k + 1 => if D k then ((SD O R s0 D k).1.put (O k).dst (R k).v, (R k).f.app (SD O R s0 D k).2) else SD O R s0 D k
structure NoClash (ops : Array Oper) (x y : Oper × Rr) : Prop where
  a : ∀ t, x.1.dst = some t → t ∉ looks ops y.1
  b : ∀ t, y.1.dst = some t → t ∉ looks ops x.1
  c : ∀ t, x.1.dst = some t → y.1.dst ≠ some t
  d : ∀ id, x.2.f.wr = some id → id ∉ y.2.tch
  e : ∀ id, y.2.f.wr = some id → id ∉ x.2.tch
  f : ∀ id, x.2.f.wr = some id → y.2.f.wr ≠ some id
theorem inO_false {x : Option Nat} {l : List Nat} (h : inO x l = false) : ∀ t, x = some t → t ∉ l := by
  intro t ht hm
  subst ht
  simp only [inO, List.any_eq_false] at h
  exact h t hm (by simp)
theorem sameO_false {x y : Option Nat} (h : sameO x y = false) : ∀ t, x = some t → y ≠ some t := by
  intro t h1 h2
  subst h1
  subst h2
  simp [sameO] at h
theorem noClash {ops : Array Oper} {x y : Oper × Rr} (h : clash ops x y = false) : NoClash ops x y := by
  simp only [clash, Bool.or_eq_false_iff] at h
  obtain ⟨⟨⟨⟨⟨h1, h2⟩, h3⟩, h4⟩, h5⟩, h6⟩ := h
  exact ⟨inO_false h1, inO_false h2, sameO_false h3, inO_false h4, inO_false h5, sameO_false h6⟩
structure AnyOk (ops : Array Oper) (base n : Nat) (O : Nat → Oper) (R : Nat → Rr) (anc : Nat → Nat) : Prop where
  c1 : ∀ i k, i < n → k < i → (anc i).testBit k = true ∨ NoClash ops (O k, R k) (O i, R i)
  c2 : ∀ i, i < n → ∀ id ∈ (R i).v.ids, id < base ∨ id = base + i ∨ (base ≤ id ∧ (anc i).testBit (id - base) = true)
  c2f : ∀ i, i < n → ∀ id ∈ (R i).f.ids, id < base ∨ (base ≤ id ∧ (anc i).testBit (id - base) = true)
  c3 : ∀ i, i < n → ∀ e ∈ (O i).after, Region.binds .any e = true → e.on < i
  c4 : ∀ i k, i < n → (anc i).testBit k = true → ∃ e ∈ (O i).after, Region.binds .any e = true ∧ (k = e.on ∨ (anc e.on).testBit k = true)
section any
variable {ops : Array Oper} {base n : Nat} {O : Nat → Oper} {R : Nat → Rr} {anc : Nat → Nat} {s0 : Tm × Hp} {D : Nat → Bool} {i : Nat}
def DC (n : Nat) (anc : Nat → Nat) (D : Nat → Bool) : Prop := ∀ j, j < n → D j = true → ∀ k, (anc j).testBit k = true → D k = true
/-- Two operations of which neither is ordered before the other. -/
theorem free_of (ok : AnyOk ops base n O R anc) (hdc : DC n anc D) (hi : i < n) (hDi : D i = false) (hr : ∀ k, (anc i).testBit k = true → D k = true) {k : Nat} (hk : k < n) (hne : k ≠ i) (hDk : D k = (decide (i < k))) :
    NoClash ops (O k, R k) (O i, R i) := by
  rcases Nat.lt_or_ge k i with h | h
  · rcases ok.c1 i k hi h with h1 | h1
    · have := hr k h1
      rw [hDk] at this
      simp at this
      omega
    · exact h1
  · have hlt : i < k := by omega
    rcases ok.c1 k i hk hlt with h1 | h1
    · have := hdc k hk (by rw [hDk]; simpa using hlt) i h1
      rw [hDi] at this
      cases this
    · exact ⟨h1.b, h1.a, fun t q1 q2 => h1.c t q2 q1, h1.e, h1.d, fun t q1 q2 => h1.f t q2 q1⟩
theorem view_tm (ok : AnyOk ops base n O R anc) (hdc : DC n anc D) (hi : i < n) (hDi : D i = false) (hr : ∀ k, (anc i).testBit k = true → D k = true) {t : Nat} (ht : t ∈ looks ops (O i)) :
    (SD O R s0 D n).1.get t = (SD O R s0 (fun _ => true) i).1.get t := by
  have h1 : ∀ k, k ≤ i → (SD O R s0 D k).1.get t = (SD O R s0 (fun _ => true) k).1.get t := by
    intro k
    induction k with
    | zero => intro _; rfl
    | succ k ih =>
      intro hk
      have ih' := ih (by omega)
      simp only [SD, if_true]
      cases hD : D k
      · simp only [Bool.false_eq_true, if_false, put_get]
        have := free_of ok hdc hi hDi hr (k := k) (by omega) (by omega) (by rw [hD]; symm; simp; omega)
        rw [if_neg (fun e => this.a t e ht)]
        exact ih'
      · simp only [if_true, put_get, ih']
  have h2 : ∀ k, i + k ≤ n → (SD O R s0 D (i + k)).1.get t = (SD O R s0 D i).1.get t := by
    intro k
    induction k with
    | zero => intro _; rfl
    | succ k ih =>
      intro hk
      have ih' := ih (by omega)
      rw [← Nat.add_assoc]
      simp only [SD]
      cases hD : D (i + k)
      · simpa using ih'
      · simp only [if_true, put_get]
        have hk0 : i + k ≠ i := by intro e; rw [e, hDi] at hD; cases hD
        have := free_of ok hdc hi hDi hr (k := i + k) (by omega) hk0 (by rw [hD]; symm; simp; omega)
        rw [if_neg (fun e => this.a t e ht)]
        exact ih'
  obtain ⟨m, rfl⟩ : ∃ m, n = i + m := ⟨n - i, by omega⟩
  rw [h2 m (Nat.le_refl _), h1 i (Nat.le_refl _)]
theorem view_hp (ok : AnyOk ops base n O R anc) (hdc : DC n anc D) (hi : i < n) (hDi : D i = false) (hr : ∀ k, (anc i).testBit k = true → D k = true) {id : Nat} (ht : id ∈ (R i).tch) :
    (SD O R s0 D n).2.get id = (SD O R s0 (fun _ => true) i).2.get id := by
  have h1 : ∀ k, k ≤ i → (SD O R s0 D k).2.get id = (SD O R s0 (fun _ => true) k).2.get id := by
    intro k
    induction k with
    | zero => intro _; rfl
    | succ k ih =>
      intro hk
      have ih' := ih (by omega)
      simp only [SD, if_true]
      cases hD : D k
      · simp only [Bool.false_eq_true, if_false, app_at]
        have := free_of ok hdc hi hDi hr (k := k) (by omega) (by omega) (by rw [hD]; symm; simp; omega)
        rw [at_other (fun e => this.d id e ht)]
        exact ih'
      · simp only [if_true, app_at, ih']
  have h2 : ∀ k, i + k ≤ n → (SD O R s0 D (i + k)).2.get id = (SD O R s0 D i).2.get id := by
    intro k
    induction k with
    | zero => intro _; rfl
    | succ k ih =>
      intro hk
      have ih' := ih (by omega)
      rw [← Nat.add_assoc]
      simp only [SD]
      cases hD : D (i + k)
      · simpa using ih'
      · simp only [if_true, app_at]
        have hk0 : i + k ≠ i := by intro e; rw [e, hDi] at hD; cases hD
        have := free_of ok hdc hi hDi hr (k := i + k) (by omega) hk0 (by rw [hD]; symm; simp; omega)
        rw [at_other (fun e => this.d id e ht)]
        exact ih'
  obtain ⟨m, rfl⟩ : ∃ m, n = i + m := ⟨n - i, by omega⟩
  rw [h2 m (Nat.le_refl _), h1 i (Nat.le_refl _)]
theorem add_tm (ok : AnyOk ops base n O R anc) (hdc : DC n anc D) (hi : i < n) (hDi : D i = false) (hr : ∀ k, (anc i).testBit k = true → D k = true) (t : Nat) :
    (SD O R s0 (fun j => D j || j == i) n).1.get t = if (O i).dst = some t then some (R i).v else (SD O R s0 D n).1.get t := by
  have h1 : ∀ k, k ≤ n → (SD O R s0 (fun j => D j || j == i) k).1.get t = if i < k ∧ (O i).dst = some t then some (R i).v else (SD O R s0 D k).1.get t := by
    intro k
    induction k with
    | zero => intro _; simp [SD]
    | succ k ih =>
      intro hk
      have ih' := ih (by omega)
      simp only [SD]
      by_cases hki : k = i
      · subst hki
        simp only [hDi, beq_self_eq_true, Bool.or_true, if_true, Bool.false_eq_true, if_false, put_get]
        rw [ih']
        simp only [Nat.lt_irrefl, false_and, if_false, Nat.lt_succ_self, true_and]
      · have e1 : (D k || k == i) = D k := by simp [hki]
        simp only [e1]
        cases hD : D k
        · simp only [Bool.false_eq_true, if_false, ih']
          have : i < k + 1 ↔ i < k := by omega
          simp only [this]
        · simp only [if_true, put_get, ih']
          by_cases hlt : i < k
          · have fr := free_of ok hdc hi hDi hr (k := k) (by omega) hki (by rw [hD]; symm; simpa using hlt)
            by_cases hd : (O i).dst = some t
            · have : (O k).dst ≠ some t := fun e => fr.c t e hd
              simp [hd, this, hlt, show i < k + 1 by omega]
            · simp [hd]
          · have : ¬ i < k + 1 := by omega
            simp [hlt, this]
  have := h1 n (Nat.le_refl _)
  simpa [hi] using this
theorem add_hp (ok : AnyOk ops base n O R anc) (hdc : DC n anc D) (hi : i < n) (hDi : D i = false) (hr : ∀ k, (anc i).testBit k = true → D k = true) (id : Nat) :
    (SD O R s0 (fun j => D j || j == i) n).2.get id = (R i).f.at id ((SD O R s0 D n).2.get id) := by
  have h1 : ∀ k, k ≤ n → (SD O R s0 (fun j => D j || j == i) k).2.get id = if i < k then (R i).f.at id ((SD O R s0 D k).2.get id) else (SD O R s0 D k).2.get id := by
    intro k
    induction k with
    | zero => intro _; simp [SD]
    | succ k ih =>
      intro hk
      have ih' := ih (by omega)
      simp only [SD]
      by_cases hki : k = i
      · subst hki
        simp only [hDi, beq_self_eq_true, Bool.or_true, if_true, Bool.false_eq_true, if_false, app_at]
        rw [ih']
        simp
      · have e1 : (D k || k == i) = D k := by simp [hki]
        simp only [e1]
        cases hD : D k
        · simp only [Bool.false_eq_true, if_false, ih']
          have : i < k + 1 ↔ i < k := by omega
          simp only [this]
        · simp only [if_true, app_at, ih']
          by_cases hlt : i < k
          · have fr := free_of ok hdc hi hDi hr (k := k) (by omega) hki (by rw [hD]; symm; simpa using hlt)
            simp only [hlt, if_true, show i < k + 1 by omega]
            by_cases hw : (R k).f.wr = some id
            · have : (R i).f.wr ≠ some id := fr.f id hw
              rw [at_other this, at_other this]
            · rw [at_other hw, at_other hw]
          · have : ¬ i < k + 1 := by omega
            simp only [hlt, this, if_false]
  have := h1 n (Nat.le_refl _)
  simpa [hi] using this
/-- A name that is told in what the set D has come to: an old one, or that of a block of an operation that it knows of. -/
def Told (base : Nat) (anc : Nat → Nat) (D : Nat → Bool) (n : Nat) (id : Nat) : Prop := id < base ∨ ∃ j, j < n ∧ D j = true ∧ (id = base + j ∨ (base ≤ id ∧ (anc j).testBit (id - base) = true))
theorem Told.ne (hdc : DC n anc D) (hDi : D i = false) {id : Nat} (h : Told base anc D n id) : id ≠ base + i := by
  rintro rfl
  rcases h with h | ⟨j, hj, hD, h | ⟨_, h⟩⟩
  · omega
  · have : i = j := by omega
    subst this
    rw [hDi] at hD
    cases hD
  · rw [show base + i - base = i by omega] at h
    have := hdc j hj hD i h
    rw [hDi] at this
    cases this
theorem told_tm (ok : AnyOk ops base n O R anc) (tb : Tm.below base s0.1 = true) : ∀ k, k ≤ n → ∀ t s, (SD O R s0 D k).1.get t = some s → ∀ id ∈ s.ids, Told base anc D n id := by
  intro k
  induction k with
  | zero => intro _ t s hs id hid; exact .inl (below_ids (Tm.below_get tb hs) id hid)
  | succ k ih =>
    intro hk t s hs id hid
    simp only [SD] at hs
    cases hD : D k
    · rw [hD] at hs; exact ih (by omega) t s hs id hid
    · rw [hD] at hs
      simp only [if_true, put_get] at hs
      split at hs
      · cases hs
        rcases ok.c2 k (by omega) id hid with h | h | h
        · exact .inl h
        · exact .inr ⟨k, by omega, hD, .inl h⟩
        · exact .inr ⟨k, by omega, hD, .inr h⟩
      · exact ih (by omega) t s hs id hid
theorem told_hp (ok : AnyOk ops base n O R anc) (hb : Hp.below base s0.2 = true) (hal : ∀ k, k < n → ∀ id el cs, (R k).f = .al id el cs → id = base + k) :
    ∀ k, k ≤ n → ∀ j b, (SD O R s0 D k).2.get j = some b → Told base anc D n j ∧ ∀ id ∈ b.cs.filterMap SCl.id?, Told base anc D n id := by
  intro k
  induction k with
  | zero =>
    intro _ j b hj
    have := Hp.below_get hb hj
    exact ⟨.inl this.1, fun id hid => .inl (cells_below this.2 id hid)⟩
  | succ k ih =>
    intro hk j b hj
    simp only [SD] at hj
    cases hD : D k
    · rw [hD] at hj; exact ih (by omega) j b hj
    · rw [hD] at hj
      simp only [if_true, app_at] at hj
      have c2 := ok.c2f k (by omega)
      have fin : ∀ id, id ∈ (R k).f.ids → Told base anc D n id := fun id hid => by
        rcases c2 id hid with h | h
        · exact .inl h
        · exact .inr ⟨k, by omega, hD, .inr h⟩
      cases hf : (R k).f with
      | nop => rw [hf] at hj; exact ih (by omega) j b hj
      | st m cs =>
        rw [hf] at hj fin
        simp only [Eff.at] at hj
        split at hj
        · rw [Option.map_eq_some_iff] at hj
          obtain ⟨c, hc, rfl⟩ := hj
          exact ⟨(ih (by omega) j c hc).1, fin⟩
        · exact ih (by omega) j b hj
      | al m el cs =>
        have hm := hal k (by omega) m el cs hf
        rw [hf] at hj fin
        simp only [Eff.at] at hj
        split at hj
        · rename_i e
          cases hj
          subst e
          exact ⟨.inr ⟨k, by omega, hD, .inl hm⟩, fin⟩
        · exact ih (by omega) j b hj
end any
theorem count_add (D : Nat → Bool) (i : Nat) (hDi : D i = false) : ∀ n, (List.range n).countP (fun j => D j || j == i) = (List.range n).countP D + if i < n then 1 else 0 := by
  intro n
  induction n with
  | zero => simp
  | succ n ih =>
    rw [List.range_succ, List.countP_append, List.countP_append, ih]
    by_cases h : n = i
    · subst h
      simp [hDi]
    · have e : (D n || n == i) = D n := by simp [h]
      simp only [List.countP_cons, List.countP_nil, e]
      by_cases h2 : i < n
      · have : i < n + 1 := by omega
        simp [h2, this]; omega
      · have : ¬ i < n + 1 := by omega
        simp [h2, this]
theorem count_all (D : Nat → Bool) (n : Nat) (h : (List.range n).countP D = n) : ∀ i, i < n → D i = true := by
  have := List.countP_eq_length.1 (h.trans (by simp : n = (List.range n).length))
  exact fun i hi => this i (List.mem_range.2 hi)
theorem SD_all {O : Nat → Oper} {R : Nat → Rr} {s0 : Tm × Hp} {D : Nat → Bool} : ∀ n, (∀ i, i < n → D i = true) → SD O R s0 D n = SD O R s0 (fun _ => true) n
  | 0, _ => rfl
  | n + 1, h => by
    simp only [SD, h n (by omega), if_true, SD_all n (fun i hi => h i (by omega))]
theorem SD_canon {O : Nat → Oper} {R : Nat → Rr} {F : Nat → Tm × Hp} {n : Nat} (h : ∀ i, i < n → F (i + 1) = ((F i).1.put (O i).dst (R i).v, (R i).f.app (F i).2)) : ∀ k, k ≤ n → SD O R (F 0) (fun _ => true) k = F k
  | 0, _ => rfl
  | k + 1, hk => by
    simp only [SD, if_true, SD_canon h k (by omega)]
    exact (h k (by omega)).symm

theorem any_sound {call : CallF} {W0 : World} (hcall : CallOk P ρ W0 call) {lo nt base : Nat} {ops : Array Oper} {W : World} (hW : Below W0.heap.size W0 W) (hlo : lo ≤ base) {O : Nat → Oper} {R : Nat → Rr} {anc : Nat → Nat} (ok : AnyOk ops base ops.size O R anc)
    (hO : ∀ i, i < ops.size → ops[i]? = some (O i)) (hd : ∀ i, i < ops.size → ∀ t, (O i).dst = some t → t < nt) {F : Nat → Tm × Hp} (hF : ∀ i, i < ops.size → StepOk P ρ call lo base ops (F i) (F (i + 1)) (O i) (R i) i)
    (tb : Tm.below base (F 0).1 = true) (hb : Hp.below base (F 0).2 = true) {Q : Exit → Act → World → Prop}
    (hQ : ∀ α' a' w', RA ρ α' nt (F ops.size).1 a' → RW ρ α' lo W w' (fun id => (F ops.size).2.get id) → Q .normal a' w') :
    ∀ (fuel : Nat) (listed : Array Bool) (α : Nat → Nat) (a : Act) (w : World), listed.size = ops.size → fuel + (List.range ops.size).countP (fun j => listed.getD j false) = ops.size →
      DC ops.size anc (fun j => listed.getD j false) → RA ρ α nt (SD O R (F 0) (fun j => listed.getD j false) ops.size).1 a → RW ρ α lo W w (fun id => (SD O R (F 0) (fun j => listed.getD j false) ops.size).2.get id) →
      wpAny P .any ops Q fuel listed a w := by
  have hcan : ∀ k, k ≤ ops.size → SD O R (F 0) (fun _ => true) k = F k := SD_canon fun i hi => by
    obtain ⟨h1, h2, _⟩ := hF i hi
    exact Prod.ext h1 h2
  have hal : ∀ k, k < ops.size → ∀ id el cs, (R k).f = .al id el cs → id = base + k := by
    intro k hk id el cs hf
    obtain ⟨_, _, pc, wt, hpc, _, h3⟩ := hF k hk
    cases wt
    · simp only [Bool.false_eq_true, if_false] at h3; rw [h3] at hf; cases hf
    · simp only [if_true] at h3
      obtain ⟨⟨pc', h4⟩, _⟩ := h3
      have := opE_eff hpc h4
      simp only [hf] at this
      exact this
  have fin : ∀ (listed : Array Bool) (α : Nat → Nat) (a : Act) (w : World), (∀ i, i < ops.size → listed.getD i false = true) → RA ρ α nt (SD O R (F 0) (fun j => listed.getD j false) ops.size).1 a →
      RW ρ α lo W w (fun id => (SD O R (F 0) (fun j => listed.getD j false) ops.size).2.get id) → Q .normal a w := by
    intro listed α a w hall ra rw_
    have e : SD O R (F 0) (fun j => listed.getD j false) ops.size = F ops.size := (SD_all ops.size hall).trans (hcan _ (Nat.le_refl _))
    rw [e] at ra rw_
    exact hQ α a w ra rw_
  intro fuel
  induction fuel with
  | zero =>
    intro listed α a w hs hc hdc ra rw_
    have hall := count_all _ _ (by omega : (List.range ops.size).countP (fun j => listed.getD j false) = ops.size)
    refine ⟨?_, fin listed α a w hall ra rw_⟩
    rw [List.eq_nil_iff_forall_not_mem]
    intro j hj
    obtain ⟨h1, o, ho, _⟩ := mem_ready.1 hj
    have hj' : j < ops.size := (Array.getElem?_eq_some_iff.1 ho).1
    have := hall j hj'
    rw [Array.getD_eq_getD_getElem?] at this h1
    simp only [show j < listed.size by omega, Array.getElem?_eq_getElem, Option.getD_some] at this h1
    rw [this] at h1
    cases h1
  | succ fuel ih =>
    intro listed α a w hs hc hdc ra rw_
    have hgd : ∀ j, j < ops.size → listed.getD j true = listed.getD j false := by
      intro j hj
      simp only [Array.getD_eq_getD_getElem?, show j < listed.size by omega, Array.getElem?_eq_getElem, Option.getD_some]
    refine ⟨fun hnil => ?_, fun i hi => ?_⟩
    · refine fin listed α a w ?_ ra rw_
      intro i
      induction i using Nat.strongRecOn with
      | ind i ihi =>
        intro hi
        cases hl : listed.getD i false with
        | true => rfl
        | false =>
          have : i ∈ Region.ready .any ops listed := mem_ready.2 ⟨by rw [hgd i hi]; exact hl, O i, hO i hi, fun e he hbd => by
            have hlt := ok.c3 i hi e he hbd
            exact ihi e.on hlt (by omega)⟩
          rw [hnil] at this
          cases this
    · obtain ⟨h1, o, ho, hafter⟩ := mem_ready.1 hi
      have hi' : i < ops.size := (Array.getElem?_eq_some_iff.1 ho).1
      have hoi : o = O i := by rw [hO i hi'] at ho; exact (Option.some.inj ho).symm
      subst hoi
      have hDi : listed.getD i false = false := by rw [← hgd i hi']; exact h1
      have hr : ∀ k, (anc i).testBit k = true → listed.getD k false = true := by
        intro k hk
        obtain ⟨e, he, hbd, hk' | hk'⟩ := ok.c4 i k hi' hk
        · rw [hk']; exact hafter e he hbd
        · exact hdc e.on (by have := ok.c3 i hi' e he hbd; omega) (hafter e he hbd) k hk'
      have hset : (fun j => (listed.setIfInBounds i true).getD j false) = (fun j => listed.getD j false || j == i) := by
        funext j
        simp only [Array.getD_eq_getD_getElem?, Array.getElem?_setIfInBounds]
        by_cases hji : i = j
        · subst hji; simp [show i < listed.size by omega]
        · simp [hji, show ¬ j = i by omega]
      obtain ⟨_, _, pc, wt, hpc, hg, h3⟩ := hF i hi'
      have hFi : SD O R (F 0) (fun _ => true) i = F i := hcan i (by omega)
      have hvt : ∀ t ∈ looks ops (O i), ∀ s, (F i).1.get t = some s → a.tmps[t]? = some (s.den ρ α) := by
        intro t ht s hs'
        have := view_tm (s0 := F 0) ok hdc hi' hDi hr ht
        rw [hFi] at this
        exact ra.get t s (by rw [this]; exact hs')
      have hw := guard_wanted hg hvt
      -- behind it
      have next : ∀ (α' : Nat → Nat) (v : Value) (w' : World), (∀ t s, (SD O R (F 0) (fun j => listed.getD j false) ops.size).1.get t = some s → s.den ρ α = s.den ρ α') → v = (R i).v.den ρ α' →
          RW ρ α' lo W w' (fun id => (R i).f.at id ((SD O R (F 0) (fun j => listed.getD j false) ops.size).2.get id)) →
          wpAny P .any ops Q fuel (listed.setIfInBounds i true) (a.put (O i).dst v) w' := by
        intro α' v w' hden hv hrw
        refine ih (listed.setIfInBounds i true) α' _ w' (by simp [hs]) ?_ ?_ ?_ ?_
        · rw [hset, count_add _ i hDi]; simp only [hi', if_true]; omega
        · rw [hset]
          intro j hj hDj k hk
          simp only [Bool.or_eq_true, beq_iff_eq] at hDj ⊢
          rcases hDj with h | h
          · exact .inl (hdc j hj h k hk)
          · subst h; exact .inl (hr k hk)
        · rw [hset]
          have rp := RA.put (tm := (SD O R (F 0) (fun j => listed.getD j false) ops.size).1) (a := a) (α := α') ⟨fun t s hs' => by rw [← hden t s hs']; exact ra.get t s hs', ra.size, ra.defers⟩ (hd i hi') (R i).v
          rw [← hv] at rp
          refine ⟨fun t s hs' => rp.get t s ?_, rp.size, rp.defers⟩
          rw [add_tm (s0 := F 0) ok hdc hi' hDi hr] at hs'
          rw [put_get]
          exact hs'
        · rw [hset]
          have e : (fun id => (SD O R (F 0) (fun j => listed.getD j false || j == i) ops.size).2.get id) = (fun id => (R i).f.at id ((SD O R (F 0) (fun j => listed.getD j false) ops.size).2.get id)) := by
            funext id
            exact add_hp (s0 := F 0) ok hdc hi' hDi hr id
          rw [e]
          exact hrw
      unfold wpOp
      simp only [ho]
      rw [hw]
      cases wt
      · simp only [Bool.false_eq_true, if_false] at h3 ⊢
        refine next α _ w (fun _ _ _ => rfl) (by rw [h3]; rfl) ?_
        rw [h3]
        exact rw_
      · simp only [if_true] at h3 ⊢
        obtain ⟨⟨pc', h4⟩, h5⟩ := h3
        have hs' := op_sound hcall hpc h4 (α := α) (a := a) (w := w) (fun x hx s he => by
          cases x with
          | tmp t =>
            have hl : t ∈ looks ops (O i) := List.mem_append.2 (.inl (List.mem_filterMap.2 ⟨.tmp t, by simpa using hx, rfl⟩))
            have := hvt t hl s he
            simp [Act.eval, Array.getD_eq_getD_getElem?, this]
          | const v => exact (cst_den ρ α he).symm
          | global g => simp [ev] at he
          | func f => simp [ev] at he; subst he; rfl) (hW.trans (rw_.bel.mono hW.size)) (fun id hid b hbk => by
            have hid' : id ∈ (R i).tch := by rw [h5]; exact hid
            have := view_hp (s0 := F 0) ok hdc hi' hDi hr hid'
            rw [hFi] at this
            exact rw_.blk id b (by rw [this]; exact hbk))
        have hok := opE_eff hpc h4
        refine .inl (hs'.2 _ _ fun v w' hv => ?_)
        cases hf : (R i).f with
        | nop =>
          simp only [EffR, hf] at hv
          obtain ⟨rfl, hbl⟩ := hv
          refine next α _ w' (fun _ _ _ => rfl) rfl ?_
          rw [hf]
          exact rw_.call hbl
        | st id cs =>
          simp only [EffR, hf] at hv
          obtain ⟨rfl, rfl⟩ := hv
          simp only [hf] at hok
          obtain ⟨g1, g2, b, g3⟩ := hok
          have hid' : id ∈ (R i).tch := by rw [h5]; exact g2
          have hvw := view_hp (s0 := F 0) ok hdc hi' hDi hr hid'
          rw [hFi] at hvw
          have g3' : (F i).2.get id = some b := g3
          refine next α _ _ (fun _ _ _ => rfl) rfl ?_
          have e : (fun j => (R i).f.at j ((SD O R (F 0) (fun j => listed.getD j false) ops.size).2.get j)) = (fun j => if id = j then some ⟨b.elem, cs⟩ else (SD O R (F 0) (fun j => listed.getD j false) ops.size).2.get j) := by
            funext j
            rw [hf]
            simp only [Eff.at]
            split
            · rename_i e; subst e; rw [hvw, g3']; rfl
            · rfl
          rw [e]
          exact rw_.st (by rw [hvw]; exact g3) g1 cs
        | al id el cs =>
          simp only [EffR, hf] at hv
          obtain ⟨hv1, rfl⟩ := hv
          have hid : id = base + i := hal i hi' id el cs hf
          let α' : Nat → Nat := fun j => if j = id then w.heap.size else α j
          have hα : ∀ j, j ≠ id → α j = α' j := fun j hj => by simp only [α', if_neg hj]
          have hαi : α' id = w.heap.size := by simp [α']
          have hnotm : ∀ t s, (SD O R (F 0) (fun j => listed.getD j false) ops.size).1.get t = some s → s.den ρ α = s.den ρ α' := fun t s hs2 =>
            SV.den_ids fun j hj => hα j (by rw [hid]; exact (told_tm ok tb _ (Nat.le_refl _) t s hs2 j hj).ne hdc hDi)
          refine next α' v _ hnotm (hv1 α' hαi) ?_
          have e : (fun j => (R i).f.at j ((SD O R (F 0) (fun j => listed.getD j false) ops.size).2.get j)) = (fun j => if id = j then some ⟨el, cs⟩ else (SD O R (F 0) (fun j => listed.getD j false) ops.size).2.get j) := by
            funext j
            rw [hf]
            rfl
          rw [e]
          refine rw_.al hαi (fun j b hj => ?_) (dens_ids fun j hj => hα j ?_) (by omega)
          · obtain ⟨t1, t2⟩ := told_hp ok hb hal _ (Nat.le_refl _) j b hj
            have n1 : j ≠ id := by rw [hid]; exact t1.ne hdc hDi
            exact ⟨n1, hα j n1, dens_ids fun m hm => hα m (by rw [hid]; exact (t2 m hm).ne hdc hDi)⟩
          · have : j ∈ (R i).f.ids := by rw [hf]; exact hj
            rcases ok.c2f i hi' j this with q | ⟨q1, q2⟩
            · omega
            · rintro rfl
              rw [hid, show base + i - base = i by omega] at q2
              have := hr i q2
              rw [hDi] at this
              cases this
end
end Go.Proofs.YtinnlahmlepeeaaDoor
