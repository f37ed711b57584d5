/- The executor's laws: what operations do to objects: new ones, new cells, grown slices. -/
import Derived.Test.YtmpadjlplgajcaaE4C
import Derived.Deep.AppendSrc
import Derived.Lib.AppendZerosOnto
namespace Go.Proofs.Ytmpadjlplgajcaa
open Go.RowKit

noncomputable def hv (hp : Hp) : Vw := Hp.over hp fun _ => none
/-- What a call hands back, and what it has done. -/
def Ret (ρ : EnvS) (n n' : Nat) (α : Nat → Pl) (h : Vw) (w : World) (v : SV) (d : Hp) : Ending → World → Prop := fun e w' => ∃ α', e = .returned (v.den ρ α') ∧ Upd (Rg n n') ρ α α' h w w' d
def CallAt (P : Program) (ρ : EnvS) (α : Nat → Pl) (w : World) (args : List SV) (R : Ending → World → Prop) : Tg → Prop
  | .fn g => callable P g = true → Calls P g (args.map (SV.den ρ α)).toArray w R
  | .yl id y => ∀ h : Vw, h id = some (.yld y) → obAt ρ α w id (.yld y) → ∃ fn tmps, (Instr.yield (α id).blk (args.map (SV.den ρ α)).toArray).run P w = .ok (.round (α id).blk fn tmps y.asg y.body) w ∧ RoundIn (FW none) 0 P (α id).blk fn tmps y.asg y.body w R
/-- All names that are told in an object's place are below n. -/
def LowV (n : Nat) (h : Vw) : Prop := ∀ id o, h id = some o → id < n ∧ ∀ m ∈ o.ids, m < n
/-- A loop whose round is called is among the objects. -/
def Tg.in (h : Vw) : Tg → Prop
  | .fn _ => True
  | .yl id y => h id = some (.yld y)
/-- The value of a cell of a list's element. -/
def CKat (ρ : EnvS) (i : Nat) (j c : Nat) : CK → Value
  | .int k => .int k (ρ.f i j c)
  | .bool => .bool (ρ.f i j c == 1)
  | .opq => one1 (ρ.g i j c)
  | .str => .string (strB (ρ.f i j c))
/-- A list that came in lies in W. -/
structure LOk (ρ : EnvS) (W : World) (L : LD) : Prop where
  nn : 0 ≤ ρ.v L.n
  pt : 0 < ρ.v L.n → ρ.p L.i = some ⟨ρ.a L.i, ρ.o L.i, none⟩
  cell : ∀ (j c : Nat) (k : CK), (j : Int) < ρ.v L.n → L.ks[c]? = some k → W.cell? ⟨ρ.a L.i, ρ.o L.i + j * L.ks.length + c, none⟩ = some (CKat ρ L.i j c k)
/-- The call does what its tree says, in every world that lies behind W0. -/
def CallOk (P : Program) (ρ : EnvS) (W0 : World) (call : CallF) : Prop := (∀ L ∈ call.ls, LOk ρ W0 L) ∧
  ∀ tg args hp nx pc v d n' pc', pc.Ok ρ → (call.run tg args hp nx pc).pick ρ = some (v, d, n', pc') →
    pc'.Ok ρ ∧ (Tg.in (hv hp) tg → (∀ s ∈ args, s.below nx = true) → LowV nx (hv hp) → ∀ (α : Nat → Pl) (w : World), Below W0.heap.size W0 w → Obs ρ W0.heap.size α w (hv hp) →
      CallAt P ρ α w args (Ret ρ nx n' α (hv hp) w v d) tg)

def setA (α : Nat → Pl) (n : Nat) (p : Pl) : Nat → Pl := fun j => if j = n then p else α j
section
variable {ρ : EnvS} {α : Nat → Pl} {P : Program} {n : Nat} {h : Vw} {w : World}
theorem setA_same (p : Pl) : setA α n p n = p := by simp [setA]
theorem setA_other {j : Nat} (hj : j ≠ n) (p : Pl) : setA α n p j = α j := by simp [setA, hj]
theorem lowL_iff {l : List Nat} : lowL n l = true ↔ ∀ m ∈ l, m < n := by simp [lowL, List.all_eq_true]
theorem dens_set {cs : List SCl} (hl : ∀ m ∈ idsL cs, m < n) (p : Pl) : dens ρ (setA α n p) cs = dens ρ α cs := dens_ids fun m hm => setA_other (by have := hl m hm; omega) p
theorem idsL_append (a b : List SCl) : idsL (a ++ b) = idsL a ++ idsL b := by simp [idsL]
theorem idsL_take {cs : List SCl} {k m : Nat} (hm : m ∈ idsL (cs.take k)) : m ∈ idsL cs := by
  obtain ⟨c, hc, e⟩ := List.mem_filterMap.1 hm
  exact List.mem_filterMap.2 ⟨c, List.mem_of_mem_take hc, e⟩
theorem idsL_drop {cs : List SCl} {k m : Nat} (hm : m ∈ idsL (cs.drop k)) : m ∈ idsL cs := by
  obtain ⟨c, hc, e⟩ := List.mem_filterMap.1 hm
  exact List.mem_filterMap.2 ⟨c, List.mem_of_mem_drop hc, e⟩
theorem cells_ids {s : SV} {cs : List SCl} (h : s.cells = some cs) : idsL cs = s.ids := by
  cases s with
  | one c =>
    simp only [SV.cells] at h
    split at h
    · cases h; rfl
    · cases h
  | agg c => simp only [SV.cells, Option.some.injEq] at h; subst h; rfl
  | tup _ => simp [SV.cells] at h
/-- A new object (and nothing else). -/
theorem eff_new {o : Ob} {p : Pl} {w' : World} (hst : Stays (fun _ => False) w w') (hat : obAt ρ (setA α n p) w' n o) (hown : o.adr p = true → w.heap.size ≤ p.blk) : Upd (Rg n (n + 1)) ρ α (setA α n p) h w w' [(n, some o)] := by
  refine ⟨fun id hr => setA_other (fun e => hr (by subst e; exact ⟨Nat.le_refl _, Nat.lt_succ_self _⟩)) p, hst.mono fun _ _ q => q.elim, fun id o' e => ?_, fun id o' _ e ha => ?_, fun i j oi oj hne e1 e2 => ?_⟩
  · rw [Hp.get_cons] at e
    split at e
    · rename_i q; subst q; cases e; exact hat
    · simp [Hp.get_nil] at e
  · rw [Hp.get_cons] at e
    split at e
    · rename_i q; subst q; cases e; rw [setA_same] at ha ⊢; exact .inr (hown ha)
    · simp [Hp.get_nil] at e
  · rw [Hp.get_cons] at e1 e2
    split at e1
    · split at e2
      · omega
      · simp [Hp.get_nil] at e2
    · simp [Hp.get_nil] at e1
theorem stays_alloc (w : World) (o : Obj) : Stays (fun _ => False) w (w.alloc o) := .of_below ((Below.refl _ w).alloc (Nat.le_refl _) o)
theorem stays_alloc_drew (w : World) (o : Obj) : Stays (fun _ => False) w (w.drew.alloc o) := .of_below ((Below.refl _ w).drew.alloc (Nat.le_refl _) o)
/-- A new block with known cells. -/
theorem eff_blk {cs : List SCl} {t : TypeId} (hl : ∀ m ∈ idsL cs, m < n) : Upd (Rg n (n + 1)) ρ α (setA α n ⟨w.heap.size, 0, .func 0, #[]⟩) h w (w.alloc (.cells (dens ρ α cs).toArray t)) [(n, some (.blk ⟨t, cs, 0, false, []⟩))] := by
  refine eff_new (stays_alloc _ _) ⟨[], by simp, fun _ => by rw [setA_same], ?_⟩ fun _ => Nat.le_refl _
  rw [setA_same, List.append_nil, dens_set hl]
  show (w.heap.push _)[w.heap.size]? = _
  simp
theorem dropAll_get (l : List Nat) (id : Nat) : ∀ x, (dropAll l).get id = some x → x = none := by
  induction l with
  | nil => intro x h; simp [dropAll, Hp.get_nil] at h
  | cons j l ih =>
    intro x h
    simp only [dropAll, Hp.get_cons] at h
    split at h
    · cases h; rfl
    · exact ih x h
/-- New cells in an old block, all of whose other names are given up. -/
theorem eff_set {id : Nat} {b : Blk} {tl tl' : List Value} {cs' : List SCl} (hid : h id = some (.blk b)) (hro : b.ro = false) (htl : tl.length = (α id).ext * b.sz) (hex : b.sz = 0 → (α id).ext = 0) (hrow : w.heap[(α id).blk]? = some (.cells (dens ρ α b.cs ++ tl).toArray b.elem (0, 0)))
    (htl' : tl'.length = tl.length) : Upd (Rg n n) ρ α α h w (w.setRow (α id).blk (dens ρ α cs' ++ tl').toArray) ((id, some (.blk ⟨b.elem, cs', b.sz, false, []⟩)) :: dropAll b.sib) := by
  have get : ∀ i o, Hp.get i ((id, some (.blk ⟨b.elem, cs', b.sz, false, []⟩)) :: dropAll b.sib) = some (some o) → i = id ∧ o = .blk ⟨b.elem, cs', b.sz, false, []⟩ := by
    intro i o e
    rw [Hp.get_cons] at e
    split at e
    · rename_i q; cases e; exact ⟨q.symm, rfl⟩
    · cases dropAll_get _ _ _ e
  refine ⟨fun _ _ => rfl, ⟨rfl, rfl, rfl, by simp [World.setRow], fun k _ hx => setRow_other _ _ _ _ fun e => hx ⟨id, _, ?_, fun q => by have := q.1; have := q.2; omega, hid, rfl, hro, e.symm⟩⟩, fun i o e => ?_, fun i _ q => by have := q.1; have := q.2; omega, fun i j oi oj hne e1 e2 => ?_⟩
  · rw [Hp.get_cons, if_pos rfl]; rfl
  · obtain ⟨rfl, rfl⟩ := get i o e
    exact ⟨tl', by rw [htl', htl], hex, setRow_heap _ _ _ _ _ _ hrow⟩
  · have := (get i oi e1).1; have := (get j oj e2).1; omega
theorem pickL_get (h : Vw) (id : Nat) : ∀ l : List Nat, hv (pickL h l) id = if id ∈ l then h id else none
  | [] => rfl
  | j :: l => by
    have ih := pickL_get h id l
    simp only [pickL]
    cases hj : h j with
    | none =>
      simp only []
      rw [ih]
      by_cases e : id = j
      · subst e; simp [hj]
      · simp [e]
    | some o =>
      simp only [hv, Hp.over, Hp.get_cons] at ih ⊢
      by_cases e : j = id
      · subst e; simp [hj]
      · rw [if_neg e, ih]
        simp [Ne.symm e]
/-! Equal, by what is known. -/
theorem isT_eq {x : Option Bool} (h : isT x = true) : x = some true := by
  cases x with
  | none => cases h
  | some b => cases b <;> first | rfl | cases h
theorem sameK_eq : ∀ {a b : List CK}, sameK a b = true → a = b
  | [], [], _ => rfl
  | x :: r, y :: s, h => by
    simp only [sameK, Bool.and_eq_true] at h
    have e : x = y := by
      cases x <;> cases y <;> first | rfl | (have := h.1; simp [CK.same] at this; done) | (have := h.1; simp only [CK.same] at this; rw [same_kind this])
    rw [e, sameK_eq h.2]
  | [], _ :: _, h => by cases h
  | _ :: _, [], h => by cases h
theorem LD.same_eq {L M : LD} (h : L.same M = true) : L = M := by
  obtain ⟨i1, n1, e1, k1⟩ := L; obtain ⟨i2, n2, e2, k2⟩ := M
  simp only [LD.same, Bool.and_eq_true, Nat.beq_eq] at h
  obtain ⟨h1, h2, h3, h4⟩ := h
  rw [h1, h2, show e1 = e2 from h3, sameK_eq h4]
theorem IE.eqP_den {pc : PC} (hpc : pc.Ok ρ) {a b : IE} (h : a.eqP pc b = true) : a.den ρ = b.den ρ := by
  simp only [IE.eqP, Bool.or_eq_true] at h
  rcases h with h | h
  · rw [IE.same_eq _ _ h]
  · have := PC.dec0_ok hpc _ (isT_eq h)
    exact eq_of_beq this
theorem BE.eqP_den {pc : PC} (hpc : pc.Ok ρ) {a b : BE} (h : a.eqP pc b = true) : a.den ρ = b.den ρ := by
  simp only [BE.eqP, Bool.or_eq_true] at h
  rcases h with h | h
  · rw [BE.same_eq _ _ h]
  · split at h
    · rename_i x y hx hy
      rw [PC.dec_ok hpc _ hx, PC.dec_ok hpc _ hy]
      exact eq_of_beq h
    · cases h
theorem rawEq_eq {v w : Value} (h : rawEq v w = true) : v = w := by
  unfold rawEq at h
  split at h
  · simp only [Bool.and_eq_true, Nat.beq_eq] at h; rw [h.1, h.2]
  · rfl
  · rfl
  · rename_i f g; rw [show f = g from Nat.eq_of_beq_eq_true h]
  · cases h
theorem SCl.eqP_den {pc : PC} (hpc : pc.Ok ρ) {a b : SCl} (h : a.eqP pc b = true) : a.den ρ α = b.den ρ α ∧ a.id? = b.id? := by
  cases a <;> cases b <;> simp only [SCl.eqP, Bool.and_eq_true, Nat.beq_eq, Bool.false_eq_true] at h
  case ssl.ssl L M => rw [LD.same_eq h]; exact ⟨rfl, rfl⟩
  case ept.ept L j c M k d => obtain ⟨h1, h2, h3⟩ := h; subst h3; rw [LD.same_eq h1]; exact ⟨by simp only [SCl.den, IE.eqP_den hpc h2], rfl⟩
  case opq.opq => obtain ⟨h1, h2, h3⟩ := h; subst h1; subst h3; exact ⟨by simp only [SCl.den, IE.eqP_den hpc h2], rfl⟩
  case int.int => rw [same_kind h.1]; exact ⟨by simp only [SCl.den, IE.eqP_den hpc h.2], rfl⟩
  case bool.bool => exact ⟨by simp only [SCl.den, BE.eqP_den hpc h], rfl⟩
  case ptr.ptr => rw [h.1, h.2]; exact ⟨rfl, rfl⟩
  case slc.slc => obtain ⟨h1, h2, h3, h4, h5⟩ := h; rw [h1, h2, h3, h4, eq_of_beq h5]; exact ⟨rfl, rfl⟩
  case nm.nm => rw [h]; exact ⟨rfl, rfl⟩
  case raw.raw => rw [rawEq_eq h]; exact ⟨rfl, rfl⟩
  case str.str => exact ⟨by simp only [SCl.den, IE.eqP_den hpc h], rfl⟩
  case bls.bls => obtain ⟨h1, h2⟩ := h; subst h1; exact ⟨by simp only [SCl.den, IE.eqP_den hpc h2], rfl⟩
  case bpt.bpt => obtain ⟨h1, h2, h3, h4⟩ := h; subst h1; subst h2; subst h4; exact ⟨by simp only [SCl.den, IE.eqP_den hpc h3], rfl⟩
theorem eqPL_den {pc : PC} (hpc : pc.Ok ρ) : ∀ {a b : List SCl}, eqPL pc a b = true → dens ρ α a = dens ρ α b ∧ idsL a = idsL b
  | [], [], _ => ⟨rfl, rfl⟩
  | x :: r, y :: s, h => by
    simp only [eqPL, Bool.and_eq_true] at h
    obtain ⟨h1, h2⟩ := SCl.eqP_den (α := α) hpc h.1
    obtain ⟨h3, h4⟩ := eqPL_den hpc h.2
    refine ⟨?_, ?_⟩
    · simp only [dens, List.map_cons] at h3 ⊢; rw [h1, h3]
    · simp only [idsL, List.filterMap_cons] at h4 ⊢; rw [h2, h4]
  | [], _ :: _, h => by cases h
  | _ :: _, [], h => by cases h
theorem apB_congr {i : Nat} {k : Option IE} {j j' : IE} (hj : j.den ρ = j'.den ρ) (c : Nat) : (apB i k j c).den ρ = (apB i k j' c).den ρ := by
  cases k <;> simp only [apB, IE.den, hj]
theorem cellsB_congr {i : Nat} {k : Option IE} {j j' : IE} (hj : j.den ρ = j'.den ρ) : ∀ (ks : List CK) (c : Nat), dens ρ α (cellsB i k j c ks) = dens ρ α (cellsB i k j' c ks)
  | [], c => rfl
  | x :: r, c => by
    have ih := cellsB_congr (i := i) (k := k) hj r (c + 1)
    simp only [dens, cellsB, List.map_cons] at ih ⊢
    rw [ih]
    cases x
    · simp only [CK.cellB, SCl.den, apB_congr hj]
    · simp only [CK.cellB, SCl.den, BE.den, apB_congr hj]
    · cases k <;> simp only [CK.cellB, SCl.den, hj]
    · simp only [CK.cellB, SCl.den, apB_congr hj]
theorem LB.base_congr {b : LB} {j j' : IE} (hj : j.den ρ = j'.den ρ) : dens ρ α (b.base j) = dens ρ α (b.base j') := cellsB_congr hj _ _
theorem cellsB_len (i : Nat) (k : Option IE) (j : IE) : ∀ (ks : List CK) (c : Nat), (cellsB i k j c ks).length = ks.length
  | [], c => rfl
  | x :: r, c => by simp only [cellsB, List.length_cons, cellsB_len i k j r]
theorem LB.base_len (b : LB) (j : IE) : (b.base j).length = b.ks.length := cellsB_len _ _ _ _ _
theorem eqO_den {pc : PC} (hpc : pc.Ok ρ) {a b : Option IE} (h : eqO pc a b = true) : a.map (IE.den ρ) = b.map (IE.den ρ) := by
  cases a <;> cases b <;> simp only [eqO, Bool.false_eq_true] at h
  · rfl
  · simp only [Option.map_some, IE.eqP_den hpc h]
theorem cellsB_k {ρ' : EnvS} {α' : Nat → Pl} (hf : ρ'.f = ρ.f) (hg : ρ'.g = ρ.g) {i : Nat} {k k' : Option IE} {j j' : IE} (hk : k.map (IE.den ρ) = k'.map (IE.den ρ')) (hj : j.den ρ = j'.den ρ') : ∀ (ks : List CK) (c : Nat), dens ρ α (cellsB i k j c ks) = dens ρ' α' (cellsB i k' j' c ks)
  | [], c => rfl
  | x :: r, c => by
    have ih := cellsB_k (α' := α') (i := i) hf hg hk hj r (c + 1)
    simp only [dens, cellsB, List.map_cons] at ih ⊢
    rw [ih]
    cases k <;> cases k' <;> simp only [Option.map_none, Option.map_some, reduceCtorEq, Option.some.injEq] at hk <;> cases x <;> simp [CK.cellB, apB, SCl.den, IE.den, BE.den, hj, hk, hf, hg]
theorem eqUps_den {pc : PC} (hpc : pc.Ok ρ) {base base' : List Value} (hb : base = base') (j : Nat) : ∀ {a b : List (IE × List SCl)}, eqUps pc a b = true → upV ρ α base j a = upV ρ α base' j b
  | [], [], _ => hb
  | (e, vs) :: r, (e', vs') :: s, h => by
    simp only [eqUps, Bool.and_eq_true] at h
    obtain ⟨h1, h2, h3⟩ := h
    simp only [upV]
    rw [IE.eqP_den hpc h1, (eqPL_den (α := α) hpc h2).1, eqUps_den hpc hb j h3]
  | [], _ :: _, h => by cases h
  | _ :: _, [], h => by cases h
/-- The same list, told otherwise. -/
theorem like_den {pc : PC} (hpc : pc.Ok ρ) {a b : LB} (h : LB.like pc a b = true) : a.elem = b.elem ∧ a.ks = b.ks ∧ a.n.den ρ = b.n.den ρ ∧ ∀ (α : Nat → Pl) (j : Nat), valsB ρ α a j = valsB ρ α b j := by
  simp only [LB.like, Bool.and_eq_true] at h
  obtain ⟨h1, h2, h3, h4, h5, h6⟩ := h
  have h1 : a.elem = b.elem := Nat.eq_of_beq_eq_true h1
  have h2 := Nat.eq_of_beq_eq_true h2
  have h3 := sameK_eq h3
  refine ⟨h1, h3, IE.eqP_den hpc h5, fun α j => ?_⟩
  unfold valsB LB.base
  refine eqUps_den hpc ?_ j h6
  rw [h2, h3]
  exact cellsB_k rfl rfl (eqO_den hpc h4) rfl _ _
theorem neP_den {pc : PC} (hpc : pc.Ok ρ) {a b : IE} (h : neP pc a b = true) : a.den ρ ≠ b.den ρ := by
  simp only [neP, Bool.or_eq_true] at h
  rcases h with h | h
  · split at h
    · rename_i e
      have := PC.dec0_ok hpc _ e
      simpa [BE.den] using this
    · cases h
  · split at h
    · rename_i e
      have := PC.dec0_ok hpc _ e
      intro q
      simp [BE.den, q] at this
    · cases h
theorem look_den {pc : PC} (hpc : pc.Ok ρ) {b : LB} {j : IE} {cs : List SCl} (h : b.look pc j = some cs) {m : Nat} (hj : j.den ρ = (m : Int)) : valsB ρ α b m = dens ρ α cs := by
  unfold LB.look at h
  unfold valsB
  have hb : dens ρ α (b.base (.lit m)) = dens ρ α (b.base j) := LB.base_congr hj.symm
  rw [hb]
  generalize b.base j = base at h
  generalize b.ups = ups at h
  induction ups with
  | nil => simp only [lookU, Option.some.injEq] at h; subst h; rfl
  | cons p r ih =>
    obtain ⟨e, vs⟩ := p
    simp only [lookU] at h
    simp only [upV]
    split at h
    · rename_i he
      cases h
      rw [if_pos ((IE.eqP_den hpc he).trans hj)]
    · split at h
      · rename_i hn
        rw [if_neg fun q => neP_den hpc hn (q.trans hj.symm)]
        exact ih h
      · cases h
theorem look_ids {pc : PC} {b : LB} {j : IE} {cs : List SCl} (h : b.look pc j = some cs) : ∀ m ∈ idsL cs, m ∈ (Ob.lst b).ids := by
  unfold LB.look at h
  have hb : ∀ m ∈ idsL (b.base j), m ∈ b.ups.flatMap fun p => idsL p.2 := fun m hm => by rw [LB.base_ids] at hm; cases hm
  have hb0 := LB.base_ids b j
  show ∀ m ∈ idsL cs, m ∈ b.ups.flatMap fun p => idsL p.2
  generalize b.base j = base at h hb0
  generalize b.ups = ups at h
  induction ups with
  | nil => simp only [lookU, Option.some.injEq] at h; subst h; intro m hm; rw [hb0] at hm; cases hm
  | cons p r ih =>
    obtain ⟨e, vs⟩ := p
    simp only [lookU] at h
    split at h
    · cases h; intro m hm; exact List.mem_append_left _ hm
    · split at h
      · intro m hm; exact List.mem_append_right _ (ih h m hm)
      · cases h
/-- A list of the call's own, told otherwise, under another name. -/
theorem lstAt_eq {ρ' : EnvS} {α' : Nat → Pl} {id id' : Nat} {b b' : LB} (hα : α id = α' id') (he : b.elem = b'.elem) (hks : b.ks = b'.ks) (hn : b.n.den ρ = b'.n.den ρ') (hv : ∀ j : Nat, (j : Int) < b.n.den ρ → valsB ρ α b j = valsB ρ' α' b' j) (hb : lstAt ρ α w id b) : lstAt ρ' α' w id' b' := by
  refine ⟨by rw [← hn]; exact hb.nn, fun q => by rw [← hn, ← hα]; exact hb.nil (by rw [hα]; exact q), fun q => ?_⟩
  rw [← hα] at q
  obtain ⟨cs, h1, h2, h3, h4, h5⟩ := hb.row q
  refine ⟨cs, by rw [← hα, ← he]; exact h1, by rw [← hα, ← hks]; exact h2, by rw [← hα, ← hn]; exact h3, fun j c v hj hc => ?_, h5⟩
  rw [← hks]
  rw [← hn] at hj
  exact h4 j c v hj (by rw [hv j hj]; exact hc)
end
end Go.Proofs.Ytmpadjlplgajcaa
