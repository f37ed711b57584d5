/- The executor's laws: the operations of a region in their written order. -/
import Derived.Test.YtinnlahmlepeeaaDoorExD
namespace Go.Proofs.YtinnlahmlepeeaaDoor
open Go.RowKit

def EffOk (lo fresh : Nat) (h : Nat → Option Blk) (tch : List Nat) : Eff → Prop
  | .nop => True
  | .st id _ => lo ≤ id ∧ id ∈ tch ∧ ∃ b, h id = some b
  | .al id _ _ => id = fresh
section
variable {ρ : EnvS} {P : Program}
theorem val_nop {pc : PC} {x : Option SV} {r : Res} (h : (val pc x).pick ρ = some r) : r.2.1 = .nop := by
  obtain ⟨v, _, rfl⟩ := val_some h
  rfl
theorem opE_eff {call : CallF} {lo : Nat} {pc : PC} (hpc : pc.Ok ρ) {e : Operand → Option SV} {h : Nat → Option Blk} {fresh : Nat} {o : Oper} {r : Res}
    (hr : (opE P call lo pc e h fresh o).pick ρ = some r) : EffOk lo fresh h (touch e o) r.2.1 := by
  have nop : r.2.1 = .nop → EffOk lo fresh h (touch e o) r.2.1 := fun e => by rw [e]; trivial
  obtain ⟨dst, op, type, pos, after, guard⟩ := o
  cases op with
  | alloc t =>
    simp only [opE] at hr
    repeat' split at hr
    all_goals first | exact (T.bad_some hr).elim | (have := T.ret_some hr; subst this; exact rfl)
  | box t x =>
    simp only [opE] at hr
    repeat' split at hr
    all_goals first | exact (T.bad_some hr).elim | (have := T.ret_some hr; subst this; exact rfl)
  | buildSlice t n ps =>
    simp only [opE] at hr
    repeat' split at hr
    all_goals first | exact (T.bad_some hr).elim | (have := T.ret_some hr; subst this; exact rfl)
  | store t x y =>
    simp only [opE] at hr
    split at hr
    · rename_i id off v n hx hy hn
      split at hr
      · rename_i b cs hb hcs
        split at hr
        · rename_i hc
          simp only [Bool.and_eq_true, Nat.ble_eq] at hc
          have := T.ret_some hr
          subst this
          exact ⟨hc.1.2, by simp [touch, hx], b, hb⟩
        · exact (T.bad_some hr).elim
      · exact (T.bad_some hr).elim
    · exact (T.bad_some hr).elim
  | pick c x y =>
    simp only [opE] at hr
    split at hr
    · obtain ⟨pc', h1, h2⟩ := T.cond_some hpc hr
      exact nop (val_nop h2)
    · exact (T.bad_some hr).elim
  | binOp op t x y ty =>
    simp only [opE] at hr
    repeat' split at hr
    all_goals first
      | exact (T.bad_some hr).elim
      | exact nop (val_nop hr)
      | (obtain ⟨pc', h1, h2⟩ := T.cond_some hpc hr
         first
           | exact nop (val_nop h2)
           | (split at h2
              · exact (T.bad_some h2).elim
              · exact nop (val_nop h2)))
  | call c =>
    simp only [opE] at hr
    repeat' split at hr
    all_goals first
      | exact (T.bad_some hr).elim
      | exact nop (val_nop hr)
      | (obtain ⟨⟨v, pc'⟩, h1, h2⟩ := T.bind_some hr
         split at h2
         · have := T.ret_some h2; subst this; exact nop rfl
         · exact (T.bad_some h2).elim)
  | _ =>
    simp only [opE] at hr
    repeat' split at hr
    all_goals first
      | exact (T.bad_some hr).elim
      | exact nop (val_nop hr)

/-- The temporaries, as far as they are told. -/
structure RA (ρ : EnvS) (α : Nat → Nat) (nt : Nat) (tm : Tm) (a : Act) : Prop where
  get : ∀ t s, tm.get t = some s → a.tmps[t]? = some (s.den ρ α)
  size : a.tmps.size = nt
  defers : a.defers = []
/-- The call's own blocks, and those that it was handed; all else stands as in W. -/
structure RW (ρ : EnvS) (α : Nat → Nat) (lo : Nat) (W w : World) (h : Nat → Option Blk) : Prop where
  bel : Below W.heap.size W w
  blk : ∀ id b, h id = some b → blkAt ρ α w id b
  own : ∀ id b, h id = some b → lo ≤ id → W.heap.size ≤ α id
  arg : ∀ id b, h id = some b → id < lo → α id < W.heap.size
  inj : ∀ i j b c, lo ≤ i → lo ≤ j → h i = some b → h j = some c → α i = α j → i = j

variable {α : Nat → Nat}
theorem blkAt_lt {w : World} {id : Nat} {b : Blk} (h : blkAt ρ α w id b) : α id < w.heap.size := (Array.getElem?_eq_some_iff.1 h).1
theorem RW.call {lo : Nat} {W w w' : World} {h : Nat → Option Blk} (r : RW ρ α lo W w h) (hb : Below w.heap.size w w') : RW ρ α lo W w' h where
  bel := r.bel.trans (hb.mono r.bel.size)
  blk := fun id b hi => by have := r.blk id b hi; exact (hb.block _ (blkAt_lt this)).trans this
  own := r.own
  arg := r.arg
  inj := r.inj
theorem RW.st {lo : Nat} {W w : World} {h : Nat → Option Blk} (r : RW ρ α lo W w h) {id : Nat} {b : Blk} (hid : h id = some b) (hlo : lo ≤ id) (cs : List SCl) :
    RW ρ α lo W (w.setRow (α id) (dens ρ α cs).toArray) (fun j => if id = j then some ⟨b.elem, cs⟩ else h j) where
  bel := r.bel.trans ⟨rfl, rfl, rfl, by simp, fun k hk => by
    have := r.own id b hid hlo
    exact setRow_other _ _ _ _ (by omega)⟩
  blk := fun j c hj => by
    split at hj
    · rename_i e
      cases hj
      subst e
      exact setRow_heap _ _ _ _ _ _ (r.blk id b hid)
    · rename_i e
      have h1 := r.blk j c hj
      have hne : α j ≠ α id := by
        intro he
        rcases Nat.lt_or_ge j lo with hlt | hge
        · have := r.arg j c hj hlt
          have := r.own id b hid hlo
          omega
        · exact e (r.inj j id c b hge hlo hj hid he).symm
      exact (setRow_other _ _ _ _ hne).trans h1
  own := fun j c hj hl => by
    split at hj
    · rename_i e; subst e; exact r.own id b hid hlo
    · exact r.own j c hj hl
  arg := fun j c hj hl => by
    split at hj
    · rename_i e; subst e; omega
    · exact r.arg j c hj hl
  inj := fun i j p q hi hj h1 h2 he => by
    have aux : ∀ k p, (if id = k then some (⟨b.elem, cs⟩ : Blk) else h k) = some p → ∃ p', h k = some p' := by
      intro k p hk
      split at hk
      · rename_i e; subst e; exact ⟨b, hid⟩
      · exact ⟨p, hk⟩
    obtain ⟨p', h1'⟩ := aux i p h1
    obtain ⟨q', h2'⟩ := aux j q h2
    exact r.inj i j p' q' hi hj h1' h2' he
theorem SCl.den_ids {α' : Nat → Nat} {c : SCl} (h : ∀ id, c.id? = some id → α id = α' id) : c.den ρ α = c.den ρ α' := by
  cases c <;> first | rfl | (simp only [SCl.den, h _ rfl])
theorem dens_ids {α' : Nat → Nat} {cs : List SCl} (h : ∀ id ∈ cs.filterMap SCl.id?, α id = α' id) : dens ρ α cs = dens ρ α' cs :=
  List.map_congr_left fun c hc => SCl.den_ids fun id hi => h id (List.mem_filterMap.2 ⟨c, hc, hi⟩)
theorem S1.den_ids {α' : Nat → Nat} {s : S1} (h : ∀ id ∈ s.cs.filterMap SCl.id?, α id = α' id) : s.den ρ α = s.den ρ α' := by
  unfold S1.den
  split
  · have := dens_ids (ρ := ρ) h; simp only [dens] at this; rw [this]
  · split
    · rename_i c r e; exact SCl.den_ids fun id hi => h id (List.mem_filterMap.2 ⟨c, by rw [e]; simp, hi⟩)
    · rfl
theorem SV.den_ids {α' : Nat → Nat} {s : SV} (h : ∀ id ∈ s.ids, α id = α' id) : s.den ρ α = s.den ρ α' := by
  cases s with
  | one c => exact SCl.den_ids fun id hi => h id (List.mem_filterMap.2 ⟨c, by simp, hi⟩)
  | agg cs => have := dens_ids (ρ := ρ) (cs := cs) h; simp only [dens] at this; simp only [SV.den, this]
  | tup vs =>
    simp only [SV.den]
    congr 2
    exact List.map_congr_left fun s hs => S1.den_ids fun id hi => h id (List.mem_flatMap.2 ⟨s, hs, hi⟩)
theorem cells_below {n : Nat} {cs : List SCl} (h : cs.all (·.below n) = true) : ∀ id ∈ cs.filterMap SCl.id?, id < n := by
  intro id hm
  obtain ⟨c, hc, hi⟩ := List.mem_filterMap.1 hm
  have := List.all_eq_true.1 h c hc
  cases c <;> simp [SCl.id?] at hi <;> subst hi <;> simpa [SCl.below] using this
theorem dens_congr {α' : Nat → Nat} {n : Nat} (hα : ∀ id, id < n → α id = α' id) {cs : List SCl} (h : cs.all (·.below n) = true) : dens ρ α cs = dens ρ α' cs :=
  dens_ids fun id hi => hα id (cells_below h id hi)
theorem SV.den_congr {α' : Nat → Nat} {n : Nat} (hα : ∀ id, id < n → α id = α' id) {s : SV} (h : s.below n = true) : s.den ρ α = s.den ρ α' :=
  SV.den_ids fun id hi => hα id (below_ids h id hi)
theorem RW.al {lo : Nat} {W w : World} {h : Nat → Option Blk} (r : RW ρ α lo W w h) {α' : Nat → Nat} {id : Nat} {elem : TypeId} {cs : List SCl} (hid : α' id = w.heap.size)
    (hlow : ∀ j b, h j = some b → j ≠ id ∧ α j = α' j ∧ dens ρ α b.cs = dens ρ α' b.cs) (hcs : dens ρ α cs = dens ρ α' cs) (hlo : lo ≤ id) :
    RW ρ α' lo W (w.alloc (.cells (dens ρ α cs).toArray elem)) (fun j => if id = j then some ⟨elem, cs⟩ else h j) where
  bel := r.bel.alloc r.bel.size _
  blk := fun j c hj => by
    split at hj
    · rename_i e
      cases hj
      subst e
      unfold blkAt
      rw [hid, hcs]
      show (w.heap.push _)[w.heap.size]? = _
      simp
    · have h1 := r.blk j c hj
      obtain ⟨_, hl, hb⟩ := hlow j c hj
      unfold blkAt
      rw [← hl, ← hb]
      exact (Below.heap_alloc _ _ _ (blkAt_lt h1)).trans h1
  own := fun j c hj hl => by
    split at hj
    · rename_i e; subst e; rw [hid]; exact r.bel.size
    · rw [← (hlow j c hj).2.1]; exact r.own j c hj hl
  arg := fun j c hj hl => by
    split at hj
    · rename_i e; subst e; omega
    · rw [← (hlow j c hj).2.1]; exact r.arg j c hj hl
  inj := fun i j p q hi hj h1 h2 he => by
    split at h1
    · rename_i e
      split at h2
      · rename_i e2; omega
      · subst e
        have := blkAt_lt (r.blk j q h2)
        rw [hid, ← (hlow j q h2).2.1] at he
        omega
    · split at h2
      · rename_i e; subst e
        have := blkAt_lt (r.blk i p h1)
        rw [hid, ← (hlow i p h1).2.1] at he
        omega
      · rw [← (hlow i p h1).2.1, ← (hlow j q h2).2.1] at he
        exact r.inj i j p q hi hj h1 h2 he
theorem Tm.get_cons (t u : Nat) (s : SV) (r : Tm) : Tm.get t ((u, s) :: r) = if u = t then some s else Tm.get t r := by
  simp only [Tm.get]
  by_cases h : u = t <;> simp [h]
theorem Tm.below_get {n t : Nat} : ∀ {tm : Tm} {s : SV}, Tm.below n tm = true → tm.get t = some s → s.below n = true
  | [], s, _, hg => by simp [Tm.get] at hg
  | (u, x) :: r, s, hb, hg => by
    simp only [Tm.below, Bool.and_eq_true] at hb
    rw [Tm.get_cons] at hg
    split at hg
    · cases hg; exact hb.1
    · exact Tm.below_get hb.2 hg
theorem Hp.below_get {n id : Nat} : ∀ {h : Hp} {b : Blk}, Hp.below n h = true → h.get id = some b → id < n ∧ b.cs.all (·.below n) = true
  | [], b, _, hg => by simp [Hp.get] at hg
  | (j, x) :: r, b, hb, hg => by
    simp only [Hp.below, Bool.and_eq_true, Nat.blt_eq] at hb
    rw [Hp.get_cons] at hg
    split at hg
    · rename_i e; cases hg; subst e; exact hb.1
    · exact Hp.below_get hb.2 hg
theorem Hp.low_get {n id : Nat} : ∀ {h : Hp} {b : Blk}, Hp.low n h = true → h.get id = some b → id < n
  | [], b, _, hg => by simp [Hp.get] at hg
  | (j, x) :: r, b, hb, hg => by
    simp only [Hp.low, Bool.and_eq_true, Nat.blt_eq] at hb
    rw [Hp.get_cons] at hg
    split at hg
    · rename_i e; subst e; exact hb.1
    · exact Hp.low_get hb.2 hg
theorem RA.put {nt : Nat} {tm : Tm} {a : Act} (r : RA ρ α nt tm a) {d : Option Tmp} (hd : ∀ t, d = some t → t < nt) (v : SV) : RA ρ α nt (tm.put d v) (a.put d (v.den ρ α)) := by
  cases d with
  | none => exact r
  | some t =>
    have ht := hd t rfl
    refine ⟨fun u s hu => ?_, by simp [Act.put, r.size], r.defers⟩
    simp only [Tm.put, Tm.get_cons] at hu
    simp only [Act.put, Array.getElem?_setIfInBounds]
    split at hu
    · rename_i e; cases hu; subst e; simp [r.size, ht]
    · rename_i e; simp [e]; exact r.get u s hu
theorem RA.congr {nt : Nat} {tm : Tm} {a : Act} {α' : Nat → Nat} {n : Nat} (r : RA ρ α nt tm a) (hα : ∀ id, id < n → α id = α' id) (h : Tm.below n tm = true) : RA ρ α' nt tm a :=
  ⟨fun t s hs => by rw [← SV.den_congr hα (Tm.below_get h hs)]; exact r.get t s hs, r.size, r.defers⟩
theorem ev_den {nt : Nat} {tm : Tm} {a : Act} (r : RA ρ α nt tm a) {x : Operand} {s : SV} (h : ev tm x = some s) : a.eval x = s.den ρ α := by
  cases x with
  | tmp t => have := r.get t s h; simp [Act.eval, Array.getD_eq_getD_getElem?, this]
  | const v => exact (cst_den ρ α h).symm
  | global g => simp [ev] at h
  | func f => simp [ev] at h; subst h; rfl
theorem guard_some {β : Type} {nt : Nat} {tm : Tm} {a : Act} (r : RA ρ α nt tm a) {pc : PC} (hpc : pc.Ok ρ) {ops : Array Oper} {o : Oper} {k : PC → Bool → T β} {out : β} (h : (guardE ops tm pc o k).pick ρ = some out) :
    ∃ pc', pc'.Ok ρ ∧ (k pc' (Region.wanted o (yielded ops a.tmps))).pick ρ = some out := by
  unfold guardE at h
  unfold Region.wanted
  split at h
  · rename_i e; exact ⟨pc, hpc, by rw [e]; exact h⟩
  · rename_i j want e
    rw [e]
    split at h
    · exact (T.bad_some h).elim
    · rename_i t ht
      split at h
      · rename_i b hb
        obtain ⟨pc', h1, h2⟩ := T.cond_some hpc h
        refine ⟨pc', h1, ?_⟩
        have : yielded ops a.tmps j = some (b.den ρ) := by
          unfold yielded
          rw [ht]
          simp only [Option.bind_some, r.get t _ hb, SV.den, SCl.den]
        simp only [this]
        have e2 : (some (b.den ρ) == some want) = (b.den ρ == want) := by cases b.den ρ <;> cases want <;> rfl
        rw [e2]
        exact h2
      · rename_i vs hb
        refine ⟨pc, hpc, ?_⟩
        have : yielded ops a.tmps j = none := by
          unfold yielded
          rw [ht]
          simp only [Option.bind_some, r.get t _ hb, SV.den]
        simp only [this]
        exact h
      · exact (T.bad_some h).elim
/-- What an operation did, seen in the temporaries and in the blocks. -/
theorem eff_step {lo nt fresh : Nat} {W w : World} {tm : Tm} {h : Hp} {a : Act} (ra : RA ρ α nt tm a) (rw_ : RW ρ α lo W w (fun id => h.get id)) {r : Res} {o : Oper} {tch : List Nat} (hok : EffOk lo fresh (fun id => h.get id) tch r.2.1) (hfit : r.2.1.fits fresh tm h = true)
    (hlow : ∀ id b, h.get id = some b → id < fresh) (hlo : lo ≤ fresh) (hd : ∀ t, o.dst = some t → t < nt) {v : Value} {w' : World} (hv : EffR ρ α w r v w') :
    ∃ α', (∀ id, id < fresh → α id = α' id) ∧ RA ρ α' nt (tm.put o.dst r.1) (a.put o.dst v) ∧ RW ρ α' lo W w' (fun id => (r.2.1.app h).get id) := by
  obtain ⟨s, f, pc⟩ := r
  cases f with
  | nop =>
    obtain ⟨rfl, hb⟩ := hv
    exact ⟨α, fun _ _ => rfl, ra.put hd s, rw_.call hb⟩
  | st id cs =>
    obtain ⟨rfl, rfl⟩ := hv
    obtain ⟨h1, _, b, hb⟩ := hok
    refine ⟨α, fun _ _ => rfl, ra.put hd s, ?_⟩
    have e : (fun j => (Eff.app h (.st id cs)).get j) = (fun j => if id = j then some ⟨b.elem, cs⟩ else h.get j) := by
      funext j
      simp only [Eff.app, hb, Hp.get_cons]
    show RW ρ α lo W _ (fun j => (Eff.app h (.st id cs)).get j)
    rw [e]
    exact rw_.st hb h1 cs
  | al id elem cs =>
    obtain ⟨h1, rfl⟩ := hv
    have h2 : id = fresh := hok
    subst h2
    simp only [Eff.fits, Bool.and_eq_true] at hfit
    obtain ⟨⟨g1, g2⟩, g3⟩ := hfit
    let α' : Nat → Nat := fun j => if j = id then w.heap.size else α j
    have hα : ∀ j, j < id → α j = α' j := fun j hj => by simp only [α', if_neg (Nat.ne_of_lt hj)]
    have hid : α' id = w.heap.size := by simp [α']
    refine ⟨α', hα, ?_, ?_⟩
    · rw [h1 α' hid]
      exact (ra.congr hα g1).put hd s
    · have e : (fun j => (Eff.app h (.al id elem cs)).get j) = (fun j => if id = j then some ⟨elem, cs⟩ else h.get j) := by
        funext j
        simp only [Eff.app, Hp.get_cons]
      show RW ρ α' lo W _ (fun j => (Eff.app h (.al id elem cs)).get j)
      rw [e]
      exact rw_.al hid (fun j b hj => by
        have q := Hp.below_get g2 hj
        exact ⟨by omega, hα j q.1, dens_congr hα q.2⟩) (dens_congr hα g3) hlo
theorem app_low {fresh : Nat} {lo : Nat} {h : Hp} {tch : List Nat} {f : Eff} (hok : EffOk lo fresh (fun id => h.get id) tch f) (hlow : ∀ id b, h.get id = some b → id < fresh) : ∀ id b, (f.app h).get id = some b → id < fresh + 1 := by
  intro id b hg
  cases f with
  | nop => have := hlow id b hg; omega
  | st j cs =>
    obtain ⟨_, _, c, hc⟩ := hok
    simp only [Eff.app, hc, Hp.get_cons] at hg
    split at hg
    · rename_i e; subst e; have := hlow _ _ hc; omega
    · have := hlow _ _ hg; omega
  | al j el cs =>
    have : j = fresh := hok
    simp only [Eff.app, Hp.get_cons] at hg
    split at hg
    · omega
    · have := hlow _ _ hg; omega
/-- The operations in their written order. -/
theorem seq_sound {call : CallF} {W0 : World} (hcall : CallOk P ρ W0 call) {lo nt base : Nat} {ops : Array Oper} {W : World} (hW : Below W0.heap.size W0 W) (hlo : lo ≤ base) (hd : ∀ o ∈ ops.toList, ∀ t, o.dst = some t → t < nt) {Q : Exit → Act → World → Prop} :
    ∀ (l : List Oper) (i : Nat) (pc : PC) (tm : Tm) (h : Hp) (acc : List Rr) {out : PC × Tm × Hp × List Rr} {α : Nat → Nat} {a : Act} {w : World},
      (∀ j, l[j]? = ops[i + j]?) → (seqE P call lo ops base l i pc tm h acc).pick ρ = some out → pc.Ok ρ → RA ρ α nt tm a → RW ρ α lo W w (fun id => h.get id) → (∀ id b, h.get id = some b → id < base + i) →
      (∀ α' a' w', out.1.Ok ρ → RA ρ α' nt out.2.1 a' → RW ρ α' lo W w' (fun id => out.2.2.1.get id) → (∀ id b, out.2.2.1.get id = some b → id < base + (i + l.length)) → Q .normal a' w') →
      wpOps P ops Q (List.range' i l.length) a w
  | [], i, pc, tm, h, acc, out, α, a, w, _, hr, hpc, ra, rw_, hlow, hQ => by
    have := T.ret_some hr
    subst this
    exact hQ α a w hpc ra rw_ hlow
  | o :: l, i, pc, tm, h, acc, out, α, a, w, hl, hr, hpc, ra, rw_, hlow, hQ => by
    have ho : ops[i]? = some o := by have := hl 0; simpa using this.symm
    have hl' : ∀ j, l[j]? = ops[i + 1 + j]? := fun j => by
      have := hl (j + 1)
      rw [List.getElem?_cons_succ] at this
      rw [this]
      congr 1
      omega
    have hdo : ∀ t, o.dst = some t → t < nt := fun t ht => hd o (Array.mem_toList_iff.2 (Array.mem_of_getElem? ho)) t ht
    simp only [seqE] at hr
    obtain ⟨pc', hpc', h1⟩ := guard_some ra hpc hr
    simp only [List.length_cons, List.range'_succ, wpOps, ho]
    split
    · rename_i hw
      rw [hw] at h1
      simp only [if_true] at h1
      obtain ⟨⟨v, f, pc2⟩, h2, h3⟩ := T.bind_some h1
      simp only at h3
      split at h3
      · rename_i hfit
        have hs := op_sound hcall hpc' h2 (α := α) (a := a) (w := w) (fun x _ s hs => ev_den ra hs) (hW.trans (rw_.bel.mono hW.size)) (fun id _ b hb => rw_.blk id b hb)
        have hok := opE_eff hpc' h2
        refine .inl (hs.2 _ _ fun v' w' hv => ?_)
        obtain ⟨α', hα, ra', rw'⟩ := eff_step ra rw_ hok hfit hlow (by omega) hdo hv
        refine seq_sound hcall hW hlo hd l (i + 1) pc2 _ _ _ hl' h3 hs.1 ra' rw' (app_low hok hlow) (fun α2 a2 w2 q1 q2 q3 q4 => hQ α2 a2 w2 q1 q2 q3 (fun id b hb => by have := q4 id b hb; simp only [List.length_cons]; omega))
      · exact (T.bad_some h3).elim
    · rename_i hw
      have hw' : Region.wanted o (yielded ops a.tmps) = false := by simpa using hw
      rw [hw'] at h1
      simp only [Bool.false_eq_true, if_false] at h1
      exact seq_sound hcall hW hlo hd l (i + 1) pc' _ _ _ hl' h1 hpc' (ra.put hdo (.tup [])) rw_ (fun id b hb => by have := hlow id b hb; omega) (fun α2 a2 w2 q1 q2 q3 q4 => hQ α2 a2 w2 q1 q2 q3 (fun id b hb => by have := q4 id b hb; simp only [List.length_cons]; omega))
end
end Go.Proofs.YtinnlahmlepeeaaDoor
