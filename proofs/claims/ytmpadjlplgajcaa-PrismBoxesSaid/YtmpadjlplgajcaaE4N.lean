/- What a run has found is used by a greater run: entries of (function, arguments, objects, next name) and what the call comes to. -/
import Derived.Test.YtmpadjlplgajcaaE4W
namespace Go.Proofs.Ytmpadjlplgajcaa
def IE.eqb : IE → IE → Bool
  | .lit n, .lit m => decide (n = m)
  | _, _ => false
def BE.eqb : BE → BE → Bool
  | .lit n, .lit m => n == m
  | _, _ => false
def SCl.eqb : SCl → SCl → Bool
  | .int k a, .int l b => IntKind.same k l && a.eqb b
  | .bool a, .bool b => a.eqb b
  | .ptr i o, .ptr j p => i.beq j && o.beq p
  | .slc i o l c x, .slc j p m d y => i.beq j && (o.beq p && (l.beq m && (c.beq d && x == y)))
  | .nm i, .nm j => i.beq j
  | .str a, .str b => a.eqb b
  | .raw v, .raw w => rawEq v w
  | _, _ => false
def eqL : List SCl → List SCl → Bool
  | [], [] => true
  | a :: r, b :: s => a.eqb b && eqL r s
  | _, _ => false
def eqN : List Nat → List Nat → Bool
  | [], [] => true
  | a :: r, b :: s => a.beq b && eqN r s
  | _, _ => false
def S1.eqb (a b : S1) : Bool := a.agg == b.agg && eqL a.cs b.cs
def eqS : List S1 → List S1 → Bool
  | [], [] => true
  | a :: r, b :: s => a.eqb b && eqS r s
  | _, _ => false
def SV.eqb : SV → SV → Bool
  | .one a, .one b => a.eqb b
  | .agg a, .agg b => eqL a b
  | .tup a, .tup b => eqS a b
  | _, _ => false
def eqVl : List SV → List SV → Bool
  | [], [] => true
  | a :: r, b :: s => a.eqb b && eqVl r s
  | _, _ => false
def Blk.eqb (a b : Blk) : Bool := Nat.beq a.elem b.elem && (eqL a.cs b.cs && (a.sz.beq b.sz && (a.ro == b.ro && eqN a.sib b.sib)))
def Ob.eqb : Ob → Ob → Bool
  | .blk a, .blk b => a.eqb b
  | .clo g a, .clo h b => Nat.beq g h && eqS a b
  | .dfr, .dfr => true
  | _, _ => false
def eqOx : Option Ob → Option Ob → Bool
  | none, none => true
  | some a, some b => a.eqb b
  | _, _ => false
def Hp.eqb : Hp → Hp → Bool
  | [], [] => true
  | (i, a) :: r, (j, b) :: s => i.beq j && (eqOx a b && Hp.eqb r s)
  | _, _ => false
theorem IntKind.same_eq : ∀ {k l : IntKind}, IntKind.same k l = true → k = l := by
  intro k l h; cases k <;> cases l <;> first | rfl | (simp [IntKind.same] at h)
theorem IE.eqb_eq {a b : IE} (h : a.eqb b = true) : a = b := by
  cases a <;> cases b <;> simp_all [IE.eqb]
theorem BE.eqb_eq {a b : BE} (h : a.eqb b = true) : a = b := by
  cases a <;> cases b <;> simp_all [BE.eqb]
theorem SCl.eqb_eq {a b : SCl} (h : a.eqb b = true) : a = b := by
  cases a <;> cases b <;> simp only [SCl.eqb, Bool.and_eq_true, beq_iff_eq, Nat.beq_eq, Bool.false_eq_true] at h
  · rw [IntKind.same_eq h.1, IE.eqb_eq h.2]
  · rw [BE.eqb_eq h]
  · rw [h.1, h.2]
  · obtain ⟨h1, h2, h3, h4, h5⟩ := h; subst h1; subst h2; subst h3; subst h4; subst h5; rfl
  · rw [h]
  · rw [rawEq_eq h]
  · rw [IE.eqb_eq h]
theorem eqL_eq : ∀ {a b : List SCl}, eqL a b = true → a = b
  | [], [], _ => rfl
  | x :: r, y :: s, h => by
    simp only [eqL, Bool.and_eq_true] at h
    rw [SCl.eqb_eq h.1, eqL_eq h.2]
  | [], _ :: _, h => by simp [eqL] at h
  | _ :: _, [], h => by simp [eqL] at h
theorem eqN_eq : ∀ {a b : List Nat}, eqN a b = true → a = b
  | [], [], _ => rfl
  | x :: r, y :: s, h => by
    simp only [eqN, Bool.and_eq_true, Nat.beq_eq] at h
    rw [h.1, eqN_eq h.2]
  | [], _ :: _, h => by simp [eqN] at h
  | _ :: _, [], h => by simp [eqN] at h
theorem S1.eqb_eq {a b : S1} (h : a.eqb b = true) : a = b := by
  obtain ⟨x, l⟩ := a; obtain ⟨y, m⟩ := b
  simp only [S1.eqb, Bool.and_eq_true, beq_iff_eq] at h
  rw [h.1, eqL_eq h.2]
theorem eqS_eq : ∀ {a b : List S1}, eqS a b = true → a = b
  | [], [], _ => rfl
  | x :: r, y :: s, h => by
    simp only [eqS, Bool.and_eq_true] at h
    rw [S1.eqb_eq h.1, eqS_eq h.2]
  | [], _ :: _, h => by simp [eqS] at h
  | _ :: _, [], h => by simp [eqS] at h
theorem SV.eqb_eq {a b : SV} (h : a.eqb b = true) : a = b := by
  cases a <;> cases b <;> simp only [SV.eqb, Bool.false_eq_true] at h
  · rw [SCl.eqb_eq h]
  · rw [eqL_eq h]
  · rw [eqS_eq h]
theorem eqVl_eq : ∀ {a b : List SV}, eqVl a b = true → a = b
  | [], [], _ => rfl
  | x :: r, y :: s, h => by
    simp only [eqVl, Bool.and_eq_true] at h
    rw [SV.eqb_eq h.1, eqVl_eq h.2]
  | [], _ :: _, h => by simp [eqVl] at h
  | _ :: _, [], h => by simp [eqVl] at h
theorem Blk.eqb_eq {a b : Blk} (h : a.eqb b = true) : a = b := by
  obtain ⟨e1, c1, s1, r1, b1⟩ := a; obtain ⟨e2, c2, s2, r2, b2⟩ := b
  simp only [Blk.eqb, Bool.and_eq_true, beq_iff_eq, Nat.beq_eq] at h
  obtain ⟨h1, h2, h3, h4, h5⟩ := h
  rw [show e1 = e2 from h1, eqL_eq h2, h3, h4, eqN_eq h5]
theorem Ob.eqb_eq {a b : Ob} (h : a.eqb b = true) : a = b := by
  cases a <;> cases b <;> simp only [Ob.eqb, Bool.and_eq_true, Nat.beq_eq, Bool.false_eq_true] at h
  · rw [Blk.eqb_eq h]
  · rename_i g _ g' _
    rw [show g = g' from h.1, eqS_eq h.2]
  · rfl
theorem eqO_eq {a b : Option Ob} (h : eqOx a b = true) : a = b := by
  cases a <;> cases b <;> simp only [eqOx, Bool.false_eq_true] at h
  · rfl
  · rw [Ob.eqb_eq h]
theorem Hp.eqb_eq : ∀ {a b : Hp}, Hp.eqb a b = true → a = b
  | [], [], _ => rfl
  | (i, x) :: r, (j, y) :: s, h => by
    simp only [Hp.eqb, Bool.and_eq_true, Nat.beq_eq] at h
    rw [h.1, eqO_eq h.2.1, Hp.eqb_eq h.2.2]
  | [], _ :: _, h => by simp [Hp.eqb] at h
  | _ :: _, [], h => by simp [Hp.eqb] at h
/-- A run that is known. -/
structure Run where
  f : FuncId
  args : List SV
  hp : Hp
  nx : Nat
  v : SV
  d : Hp
  n : Nat
def Run.find (f : FuncId) (args : List SV) (hp : Hp) (nx : Nat) : List Run → Option Run
  | [] => none
  | r :: l => if Nat.beq r.f f && (r.nx.beq nx && (eqVl r.args args && Hp.eqb r.hp hp)) then some r else Run.find f args hp nx l
/-- A call: as it is known, else as it runs. -/
def runF (tab : List Run) (rc : RunF) : RunF := fun lps => ⟨fun tg args hp nx pc => match tg, pc, lps with
  | .fn f, [], [] => match Run.find f args hp nx tab with
    | some r => .ret (r.v, r.d, r.n, [])
    | none => (rc []).run (.fn f) args hp nx []
  | tg, pc, lps => (rc lps).run tg args hp nx pc, (rc lps).ls⟩
def Run.Is (P : Program) (con : Con) (fuel d : Nat) (r : Run) : Prop := callE P con fuel d (.fn r.f) r.args r.hp r.nx [] = .ret (r.v, r.d, r.n, [])
theorem Run.find_some {f : FuncId} {args : List SV} {hp : Hp} {nx : Nat} : ∀ {l : List Run} {r : Run}, Run.find f args hp nx l = some r → r ∈ l ∧ r.f = f ∧ r.nx = nx ∧ r.args = args ∧ r.hp = hp
  | [], _, h => by simp [Run.find] at h
  | s :: l, r, h => by
    simp only [Run.find] at h
    split at h
    · rename_i hc
      simp only [Bool.and_eq_true, Nat.beq_eq] at hc
      cases h
      exact ⟨List.mem_cons_self .., hc.1, hc.2.1, eqVl_eq hc.2.2.1, Hp.eqb_eq hc.2.2.2⟩
    · obtain ⟨h1, h2⟩ := Run.find_some h
      exact ⟨List.mem_cons_of_mem _ h1, h2⟩
theorem runF_eq {P : Program} {con : Con} {fuel d : Nat} {tab : List Run} (ht : ∀ r ∈ tab, r.Is P con fuel d) : runF tab (callR P con [] fuel d) = callR P con [] fuel d := by
  funext lps
  have eta : ∀ (c : CallF) r, r = c.run → (⟨r, c.ls⟩ : CallF) = c := by intro c r h; subst h; rfl
  unfold runF
  refine eta _ _ ?_
  funext tg args hp nx pc
  split
  · split
    · rename_i r hr
      obtain ⟨h1, h2, h3, h4, h5⟩ := Run.find_some hr
      have := ht r h1
      unfold Run.Is callE at this
      rw [h2, h3, h4, h5] at this
      exact this.symm
    · rfl
  · rfl
noncomputable section
/-- A function's run over known runs. -/
def callT (P : Program) (con : Con) (tab : List Run) (fuel d : Nat) (f : FuncId) (args : List SV) (hp : Hp) (nx : Nat) (pc : PC) : T (SV × Hp × Nat × PC) :=
  match con.findL pc (Hp.over hp fun _ => none) f args with
  | some v => conE v nx pc
  | none => match P.funcs[f]? with
    | none => .bad 61
    | some fn => match fn.body with
      | none => .bad 62
      | some c => fnE P (runF tab (callR P con [] fuel d)) [] fuel fn c args hp nx pc
theorem callT_eq {P : Program} {con : Con} {fuel d : Nat} {tab : List Run} (ht : ∀ r ∈ tab, r.Is P con fuel d) {f : FuncId} {args : List SV} {hp : Hp} {nx : Nat} {pc : PC} : callT P con tab fuel d f args hp nx pc = callE P con fuel (d + 1) (.fn f) args hp nx pc := by
  unfold callT
  rw [runF_eq ht]
  rfl
def treeR (P : Program) (con : Con) (tab : List Run) (pc : PC) (fuel d : Nat) (f : FuncId) (args : List SV) : T SV :=
  ((callT P con tab fuel d f args [] 0 pc).bind fun (v, _, _, pc) => match v with
    | .one (.bool b) => T.cond pc b fun _ r => .ret (.one (.bool (.lit r)))
    | _ => .bad 67).prune
theorem treeR_eq {P : Program} {con : Con} {fuel d : Nat} {tab : List Run} (ht : ∀ r ∈ tab, r.Is P con fuel d) {f : FuncId} {args : List SV} {pc : PC} : treeB P con pc fuel (d + 1) f args = treeR P con tab pc fuel d f args := by
  unfold treeR
  rw [callT_eq ht]
  rfl
end
end Go.Proofs.Ytmpadjlplgajcaa
