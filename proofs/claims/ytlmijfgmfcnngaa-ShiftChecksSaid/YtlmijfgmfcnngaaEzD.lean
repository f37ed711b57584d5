/- The executor's laws: what operations do to objects: new ones, new cells, grown slices. -/
import Derived.Test.YtlmijfgmfcnngaaEzC
import Derived.Deep.AppendSrc
import Derived.Lib.AppendZerosOnto
namespace Go.Proofs.Ytlmijfgmfcnngaa
open Go.RowKit

noncomputable def hv (hp : Hp) : Vw := Hp.over hp fun _ => none
/-- What a call hands back, and what it has done. -/
def Ret (ρ : EnvS) (n n' : Nat) (α : Nat → Pl) (h : Vw) (w : World) (v : SV) (d : Hp) : Ending → World → Prop := fun e w' => ∃ α', e = .returned (v.den ρ α') ∧ Upd (Rg n n') ρ α α' h w w' d
def CallAt (P : Program) (ρ : EnvS) (α : Nat → Pl) (w : World) (args : List SV) (R : Ending → World → Prop) : Tg → Prop
  | .fn g => callable P g = true → Calls P g (args.map (SV.den ρ α)).toArray w R
  | .yl id y => ∀ h : Vw, h id = some (.yld y) → obAt ρ α w id (.yld y) → ∃ fn tmps, (Instr.yield (α id).blk (args.map (SV.den ρ α)).toArray).run P w = .ok (.round (α id).blk fn tmps y.asg y.body) w ∧ RoundIn (FW none) 0 P (α id).blk fn tmps y.asg y.body w R
/-- All names that are told in an object's place are below n. -/
def LowV (n : Nat) (h : Vw) : Prop := ∀ id o, h id = some o → id < n ∧ ∀ m ∈ o.ids, m < n
/-- A loop whose round is called is among the objects. -/
def Tg.in (h : Vw) : Tg → Prop
  | .fn _ => True
  | .yl id y => h id = some (.yld y)
/-- The value of a cell of a list's element. -/
def CKat (ρ : EnvS) (i : Nat) (j c : Nat) : CK → Value
  | .int k => .int k (ρ.f i j c)
  | .bool => .bool (ρ.f i j c == 1)
  | .opq => one1 (ρ.g i j c)
/-- A list that came in lies in W. -/
structure LOk (ρ : EnvS) (W : World) (L : LD) : Prop where
  nn : 0 ≤ ρ.v L.n
  pt : 0 < ρ.v L.n → ρ.p L.i = some ⟨ρ.a L.i, ρ.o L.i, none⟩
  cell : ∀ (j c : Nat) (k : CK), (j : Int) < ρ.v L.n → L.ks[c]? = some k → W.cell? ⟨ρ.a L.i, ρ.o L.i + j * L.ks.length + c, none⟩ = some (CKat ρ L.i j c k)
/-- The call does what its tree says, in every world that lies behind W0. -/
def CallOk (P : Program) (ρ : EnvS) (W0 : World) (call : CallF) : Prop := (∀ L ∈ call.ls, LOk ρ W0 L) ∧
  ∀ tg args hp nx pc v d n' pc', pc.Ok ρ → (call.run tg args hp nx pc).pick ρ = some (v, d, n', pc') →
    pc'.Ok ρ ∧ (Tg.in (hv hp) tg → (∀ s ∈ args, s.below nx = true) → LowV nx (hv hp) → ∀ (α : Nat → Pl) (w : World), Below W0.heap.size W0 w → Obs ρ W0.heap.size α w (hv hp) →
      CallAt P ρ α w args (Ret ρ nx n' α (hv hp) w v d) tg)

def setA (α : Nat → Pl) (n : Nat) (p : Pl) : Nat → Pl := fun j => if j = n then p else α j
section
variable {ρ : EnvS} {α : Nat → Pl} {P : Program} {n : Nat} {h : Vw} {w : World}
theorem setA_same (p : Pl) : setA α n p n = p := by simp [setA]
theorem setA_other {j : Nat} (hj : j ≠ n) (p : Pl) : setA α n p j = α j := by simp [setA, hj]
theorem lowL_iff {l : List Nat} : lowL n l = true ↔ ∀ m ∈ l, m < n := by simp [lowL, List.all_eq_true]
theorem dens_set {cs : List SCl} (hl : ∀ m ∈ idsL cs, m < n) (p : Pl) : dens ρ (setA α n p) cs = dens ρ α cs := dens_ids fun m hm => setA_other (by have := hl m hm; omega) p
theorem idsL_append (a b : List SCl) : idsL (a ++ b) = idsL a ++ idsL b := by simp [idsL]
theorem idsL_take {cs : List SCl} {k m : Nat} (hm : m ∈ idsL (cs.take k)) : m ∈ idsL cs := by
  obtain ⟨c, hc, e⟩ := List.mem_filterMap.1 hm
  exact List.mem_filterMap.2 ⟨c, List.mem_of_mem_take hc, e⟩
theorem idsL_drop {cs : List SCl} {k m : Nat} (hm : m ∈ idsL (cs.drop k)) : m ∈ idsL cs := by
  obtain ⟨c, hc, e⟩ := List.mem_filterMap.1 hm
  exact List.mem_filterMap.2 ⟨c, List.mem_of_mem_drop hc, e⟩
theorem cells_ids {s : SV} {cs : List SCl} (h : s.cells = some cs) : idsL cs = s.ids := by
  cases s with
  | one c =>
    simp only [SV.cells] at h
    split at h
    · cases h; rfl
    · cases h
  | agg c => simp only [SV.cells, Option.some.injEq] at h; subst h; rfl
  | tup _ => simp [SV.cells] at h
/-- A new object (and nothing else). -/
theorem eff_new {o : Ob} {p : Pl} {w' : World} (hst : Stays (fun _ => False) w w') (hat : obAt ρ (setA α n p) w' n o) (hown : o.addr = true → w.heap.size ≤ p.blk) : Upd (Rg n (n + 1)) ρ α (setA α n p) h w w' [(n, some o)] := by
  refine ⟨fun id hr => setA_other (fun e => hr (by subst e; exact ⟨Nat.le_refl _, Nat.lt_succ_self _⟩)) p, hst.mono fun _ _ q => q.elim, fun id o' e => ?_, fun id o' _ e ha => ?_, fun i j oi oj hne e1 e2 => ?_⟩
  · rw [Hp.get_cons] at e
    split at e
    · rename_i q; subst q; cases e; exact hat
    · simp [Hp.get_nil] at e
  · rw [Hp.get_cons] at e
    split at e
    · rename_i q; subst q; cases e; rw [setA_same]; exact .inr (hown ha)
    · simp [Hp.get_nil] at e
  · rw [Hp.get_cons] at e1 e2
    split at e1
    · split at e2
      · omega
      · simp [Hp.get_nil] at e2
    · simp [Hp.get_nil] at e1
theorem stays_alloc (w : World) (o : Obj) : Stays (fun _ => False) w (w.alloc o) := .of_below ((Below.refl _ w).alloc (Nat.le_refl _) o)
theorem stays_alloc_drew (w : World) (o : Obj) : Stays (fun _ => False) w (w.drew.alloc o) := .of_below ((Below.refl _ w).drew.alloc (Nat.le_refl _) o)
/-- A new block with known cells. -/
theorem eff_blk {cs : List SCl} {t : TypeId} (hl : ∀ m ∈ idsL cs, m < n) : Upd (Rg n (n + 1)) ρ α (setA α n ⟨w.heap.size, 0, .func 0, #[]⟩) h w (w.alloc (.cells (dens ρ α cs).toArray t)) [(n, some (.blk ⟨t, cs, 0, false, []⟩))] := by
  refine eff_new (stays_alloc _ _) ⟨[], by simp, fun _ => by rw [setA_same], ?_⟩ fun _ => Nat.le_refl _
  rw [setA_same, List.append_nil, dens_set hl]
  show (w.heap.push _)[w.heap.size]? = _
  simp
theorem dropAll_get (l : List Nat) (id : Nat) : ∀ x, (dropAll l).get id = some x → x = none := by
  induction l with
  | nil => intro x h; simp [dropAll, Hp.get_nil] at h
  | cons j l ih =>
    intro x h
    simp only [dropAll, Hp.get_cons] at h
    split at h
    · cases h; rfl
    · exact ih x h
/-- New cells in an old block, all of whose other names are given up. -/
theorem eff_set {id : Nat} {b : Blk} {tl tl' : List Value} {cs' : List SCl} (hid : h id = some (.blk b)) (hro : b.ro = false) (htl : tl.length = (α id).ext * b.sz) (hex : b.sz = 0 → (α id).ext = 0) (hrow : w.heap[(α id).blk]? = some (.cells (dens ρ α b.cs ++ tl).toArray b.elem (0, 0)))
    (htl' : tl'.length = tl.length) : Upd (Rg n n) ρ α α h w (w.setRow (α id).blk (dens ρ α cs' ++ tl').toArray) ((id, some (.blk ⟨b.elem, cs', b.sz, false, []⟩)) :: dropAll b.sib) := by
  have get : ∀ i o, Hp.get i ((id, some (.blk ⟨b.elem, cs', b.sz, false, []⟩)) :: dropAll b.sib) = some (some o) → i = id ∧ o = .blk ⟨b.elem, cs', b.sz, false, []⟩ := by
    intro i o e
    rw [Hp.get_cons] at e
    split at e
    · rename_i q; cases e; exact ⟨q.symm, rfl⟩
    · cases dropAll_get _ _ _ e
  refine ⟨fun _ _ => rfl, ⟨rfl, rfl, rfl, by simp [World.setRow], fun k _ hx => setRow_other _ _ _ _ fun e => hx ⟨id, _, ?_, fun q => by have := q.1; have := q.2; omega, hid, rfl, hro, e.symm⟩⟩, fun i o e => ?_, fun i _ q => by have := q.1; have := q.2; omega, fun i j oi oj hne e1 e2 => ?_⟩
  · rw [Hp.get_cons, if_pos rfl]; rfl
  · obtain ⟨rfl, rfl⟩ := get i o e
    exact ⟨tl', by rw [htl', htl], hex, setRow_heap _ _ _ _ _ _ hrow⟩
  · have := (get i oi e1).1; have := (get j oj e2).1; omega
theorem pickL_get (h : Vw) (id : Nat) : ∀ l : List Nat, hv (pickL h l) id = if id ∈ l then h id else none
  | [] => rfl
  | j :: l => by
    have ih := pickL_get h id l
    simp only [pickL]
    cases hj : h j with
    | none =>
      simp only []
      rw [ih]
      by_cases e : id = j
      · subst e; simp [hj]
      · simp [e]
    | some o =>
      simp only [hv, Hp.over, Hp.get_cons] at ih ⊢
      by_cases e : j = id
      · subst e; simp [hj]
      · rw [if_neg e, ih]
        simp [Ne.symm e]
end
end Go.Proofs.Ytlmijfgmfcnngaa
