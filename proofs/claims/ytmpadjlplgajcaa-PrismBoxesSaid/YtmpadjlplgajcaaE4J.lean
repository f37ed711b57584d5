/- The executor's laws: regions, bodies, loops over functions. -/
import Derived.Test.YtmpadjlplgajcaaE4I
import Derived.RangeFuncNested
import Derived.RangeFuncLeaves
import Derived.LoopNIn
namespace Go.Proofs.Ytmpadjlplgajcaa
open Go.RowKit
section
variable {ρ : EnvS} {P : Program} {W0 W : World} {α0 : Nat → Pl} {h0 : Vw} {nx nt : Nat}
/-- Where a call stands. -/
structure Rel (ρ : EnvS) (α0 : Nat → Pl) (h0 : Vw) (W : World) (nx nt : Nat) (s : St) (α : Nat → Pl) (a : Act) (w : World) : Prop where
  pc : s.pc.Ok ρ
  ra : RA ρ α nt s.tm s.mks a
  inv : Inv ρ α0 h0 W (Rg nx s.next) α w s.d
  tl : TmLow s.next s.tm
  dl : DLow s.next s.d
  lo : nx ≤ s.next
  ml : ∀ m ∈ s.mks, m < s.next
theorem Inv.drew {R : Nat → Prop} {α : Nat → Pl} {w : World} {d : Hp} (h : Inv ρ α0 h0 W R α w d) : Inv ρ α0 h0 W R α { w with drawn := w.drawn + 1 } d := ⟨h.up.drew, h.ok⟩
theorem reg_sound {call : CallF} (hcall : CallOk P ρ W0 call) (hm : P.follows .mixedOrders = true) (cx : Cx ρ W0 α0 h0 W nx) {rd : Option Nat} {ops : Array Oper} {draw : Bool} {s s' : St} (hr : (regE P call h0 nt ops draw s).pick ρ = some s') {α : Nat → Pl} {a : Act} {w : World}
    (rel : Rel ρ α0 h0 W nx nt s α a w) {id : Nat} {Q : Exit → Act → World → Prop} (hQ : ∀ α' a' w', Rel ρ α0 h0 W nx nt s' α' a' w' → s.next ≤ s'.next → (∀ m, m < s.next → α' m = α m) → Q .normal a' w') : (Code.region id ops draw).wpIn (FW rd) 0 P Q a w := by
  unfold regE at hr
  split at hr
  case isFalse => exact (T.bad_some hr).elim
  rename_i hdst
  obtain ⟨⟨pc, tm, d, n, rs⟩, h1, h2⟩ := T.bind_some hr
  simp only at h2
  split at h2
  case isFalse => exact (T.bad_some h2).elim
  rename_i hany
  have := T.ret_some h2
  subst this
  have hd : ∀ o ∈ ops.toList, ∀ t, o.dst = some t → t < nt := by
    intro o ho t ht
    have := List.all_eq_true.1 hdst o ho
    simp only [ht, Nat.blt_eq] at this
    exact this
  cases draw with
  | false =>
    refine wpIn_region ?_
    have := seq_sound hcall (rd := rd) cx hd (Q := Q) ops.toList 0 s.pc s.tm s.d s.next [] (fun j => by rw [Nat.zero_add]; exact Array.getElem?_toList) h1 rel.pc rel.ra rel.inv rel.tl rel.dl rel.lo rel.ml
      (fun α' a' w' q1 q2 q3 q4 q5 q6 q7 => hQ α' a' w' ⟨q1, q2, q3, q4, q5, Nat.le_trans rel.lo q6, fun m hm => Nat.lt_of_lt_of_le (rel.ml m hm) q6⟩ q6 q7)
    rwa [List.range_eq_range', ← Array.length_toList]
  | true =>
    refine wpIn_region_any hm ?_
    have hany' : anyOk ops s.next rs = true := by simpa using hany
    obtain ⟨hlen, ok⟩ := anyOk_spec hany'
    obtain ⟨F, c, rs', e1, e2, e3, e4, e5, e6, e7, e8⟩ := seq_canon hcall ops.toList 0 s.pc s.tm s.d s.next [] h1 rel.pc
    simp only [List.reverse_nil, List.nil_append] at e1
    subst e1
    have hF0 : F 0 = (s.tm, s.d) := e3
    have hFn : F ops.size = (tm, d) := by simpa using e5
    have hcn : c ops.size = n := by simpa using e6
    have hO : ∀ i, i < ops.size → ops[i]? = some (ops.getD i default) := fun i hi => by simp [Array.getD_eq_getD_getElem?, hi]
    have hF : ∀ i, i < ops.size → StepOk P ρ call h0 ops (F i) (F (i + 1)) (ops.getD i default) (rs.getD i default) (c i) (c (i + 1)) := by
      intro i hi
      have := e8 i (ops.getD i default) (rs.getD i default) (by rw [Array.getElem?_toList]; exact hO i hi) (by simp [hlen ▸ hi])
      simpa using this
    have hcm : ∀ j, j < ops.size → c j ≤ c (j + 1) := fun j hj => (hF j hj).2.2.2.2.1
    have hsn : s.next ≤ n := by have := mono_c hcm 0 ops.size (by omega) (Nat.le_refl _); omega
    have hcl : ∀ k, k ≤ ops.size → TmLow (c k) (F k).1 ∧ DLow (c k) (F k).2 := by
      intro k
      induction k with
      | zero => intro _; rw [e4, hF0]; exact ⟨rel.tl, rel.dl⟩
      | succ k ih =>
        intro hk
        obtain ⟨i1, i2⟩ := ih (by omega)
        obtain ⟨h1, h2, _, _, h5, pc, wt, _, _, h3⟩ := hF k (by omega)
        rw [h1, h2]
        cases wt
        · simp only [Bool.false_eq_true, if_false] at h3
          rw [h3]
          exact ⟨(i1.mono h5).put _ rfl, DLow.app (fun _ _ e => by simp [Hp.get_nil] at e) (i2.mono h5)⟩
        · simp only [if_true] at h3
          obtain ⟨_, _, h6, h7⟩ := h3
          exact ⟨(i1.mono h5).put _ h6, (told_low h7).app (i2.mono h5)⟩
    have hw : (fun j => (Array.replicate ops.size false).getD j false) = fun _ => false := by
      funext j
      simp only [Array.getD_eq_getD_getElem?, Array.getElem?_replicate]
      split <;> rfl
    have hw' : ∀ j, (Array.replicate ops.size false).getD j false = false := fun j => congrFun hw j
    have hSD : ∀ n, SD (fun i => ops.getD i default) (fun i => rs.getD i default) (F 0) (fun _ => false) n = F 0 := by
      intro n
      induction n with
      | zero => rfl
      | succ n ih => simp only [SD, Bool.false_eq_true, if_false, ih]
    refine any_sound hcall (rd := rd) cx rel.lo (nt := nt) (mk := s.mks) ok hO (fun i hi t ht => hd _ (Array.mem_toList_iff.2 (Array.mem_of_getElem? (hO i hi))) t ht) e4 hF (by rw [hF0]; exact rel.tl) (by rw [hF0]; exact rel.dl) rel.ml (αs := α) (Q := Q)
      (fun α' a' w' q1 q2 q3 => hQ α' a' w' ?_ hsn q3) ops.size (Array.replicate ops.size false) α a _ (by simp) ?_ ?_ ?_ ?_ fun _ _ => rfl
    · obtain ⟨g1, g2⟩ := hcl ops.size (Nat.le_refl _)
      rw [hFn] at q1 q2 g1 g2
      rw [hcn] at q2 g1 g2
      exact ⟨e7, q1, q2, g1, g2, Nat.le_trans rel.lo hsn, fun m hm => Nat.lt_of_lt_of_le (rel.ml m hm) hsn⟩
    · rw [hw]; simp
    · rw [hw]; intro j _ hj; cases hj
    · rw [hw, hSD, hF0]; exact rel.ra
    · rw [hw, hSD, hF0]
      have e : (fun i => Rg nx s.next i ∨ ∃ j, j < ops.size ∧ (Array.replicate ops.size false).getD j false = true ∧ Rg (c j) (c (j + 1)) i) = Rg nx s.next := by
        funext i
        refine propext ⟨fun q => ?_, .inl⟩
        rcases q with q | ⟨j, _, q, _⟩
        · exact q
        · rw [hw' j] at q; cases q
      rw [e]
      exact rel.inv.drew

/-- An object that is not cells is changed, or given up. -/
theorem eff_obj {α : Nat → Pl} {h : Vw} {w : World} {n id : Nat} {o : Ob} {x : Option Ob} {ob : Obj} (hid : h id = some o) (ha : o.adr (α id) = true) (hro : o.ro = false) (hs : o.sib = []) (hat : ∀ o', x = some o' → obAt ρ α (w.putObj (α id).blk ob) id o') (hx : ∀ o', x = some o' → o'.ro = false ∧ o'.isL = o.isL) :
    Upd (Rg n n) ρ α α h w (w.putObj (α id).blk ob) [(id, x)] ∧ DOk (Rg n n) h [(id, x)] := by
  have get : ∀ i y, Hp.get i [(id, x)] = some y → i = id ∧ y = x := by
    intro i y e
    rw [Hp.get_cons] at e
    split at e
    · rename_i q; cases e; exact ⟨q.symm, rfl⟩
    · simp [Hp.get_nil] at e
  have nR : ∀ i, ¬ Rg n n i := fun i q => by have := q.1; have := q.2; omega
  refine ⟨⟨fun _ _ => rfl, ⟨rfl, rfl, rfl, by simp [World.putObj], fun k _ hk => World.putObj_heap_other fun e => hk ⟨id, o, by rw [Hp.get_cons, if_pos rfl]; rfl, nR id, hid, ha, hro, e.symm⟩⟩, fun i o' e => ?_, fun i _ q => absurd q (nR i), fun i j oi oj hne e1 e2 => ?_⟩, fun k y e => ?_⟩
  · obtain ⟨rfl, q⟩ := get i _ e
    exact hat o' q.symm
  · have := (get i _ e1).1; have := (get j _ e2).1; omega
  · obtain ⟨rfl, rfl⟩ := get k y e
    exact .inr ⟨o, hid, ⟨adr_addr ha, fun o' e => (hx o' e).2⟩, fun q => (by rw [hro] at q; cases q), fun _ j hj => (by rw [hs] at hj; cases hj)⟩
theorem rg_none (n i : Nat) : ¬ Rg n n i := fun q => by have := q.1; have := q.2; omega
/-- A step that makes no new names. -/
theorem inv_same {α : Nat → Pl} {n : Nat} {w w' : World} {d f : Hp} (cx : Cx ρ W0 α0 h0 W nx) (hI : Inv ρ α0 h0 W (Rg nx n) α w d) (hn : nx ≤ n) (U : Upd (Rg n n) ρ α α (d.over h0) w w' f) (D : DOk (Rg n n) (d.over h0) f) : Inv ρ α0 h0 W (Rg nx n) α w' (Hp.app f d) :=
  inv_step cx (fun _ q => q.1) hI hn (fun id _ _ => ⟨rg_none n id, fun m _ => rg_none n m⟩) U D fun i => ⟨.inl, fun q => q.elim (fun q => q) fun q => absurd q (rg_none n i)⟩
/-- A new object. -/
theorem inv_new {α : Nat → Pl} {n : Nat} {p : Pl} {o : Ob} {w w' : World} {d : Hp} (cx : Cx ρ W0 α0 h0 W nx) (hI : Inv ρ α0 h0 W (Rg nx n) α w d) (hn : nx ≤ n) (hl : DLow n d) (hst : Stays (fun _ => False) w w') (hat : obAt ρ (setA α n p) w' n o) (hown : o.adr p = true → w.heap.size ≤ p.blk) :
    Inv ρ α0 h0 W (Rg nx (n + 1)) (setA α n p) w' (Hp.app [(n, some o)] d) := by
  have hlow := over_low hl cx.low hn
  refine inv_step cx (fun _ q => q.1) hI hn (fresh_low hlow) (eff_new hst hat hown) (fun k x e => ?_) fun i => rg_join hn (Nat.le_succ n) i
  rw [Hp.get_cons] at e
  split at e
  · rename_i q; subst q; exact .inl ⟨Nat.le_refl _, Nat.lt_succ_self _⟩
  · simp [Hp.get_nil] at e
theorem DLow.one {n id : Nat} {x : Option Ob} (h1 : id < n) (h2 : ∀ o, x = some o → ∀ m ∈ o.ids, m < n) : DLow n [(id, x)] := by
  intro k y e
  rw [Hp.get_cons] at e
  split at e
  · rename_i q; cases e; subst q; exact ⟨h1, h2⟩
  · simp [Hp.get_nil] at e
def SXt.exit : SXt → Exit
  | .norm => .normal
  | .ex id => .exit id
  | .ret => .ret
theorem lst_busy {k : Nat} (h : k.beq 1 = false) : lst k ≠ .busy := by
  match k, h with
  | 0, _ => decide
  | k + 2, _ => intro e; cases e
end
end Go.Proofs.Ytmpadjlplgajcaa
