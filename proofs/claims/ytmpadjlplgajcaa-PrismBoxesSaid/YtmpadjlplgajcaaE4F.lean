/- The executor's laws: every operation does what it is said to do. -/
import Derived.Test.YtmpadjlplgajcaaE4E
namespace Go.Proofs.Ytmpadjlplgajcaa
open Go.RowKit
section
variable {ρ : EnvS} {α : Nat → Pl} {P : Program} {n : Nat} {h : Vw} {w : World}
theorem zero_ids {t : TypeId} {z : SV} (hz : zeroT P t = some z) : z.ids = [] := by
  have one : ∀ {u : Value} {c : SCl}, cst1 u = some c → idsL [c] = [] := by
    intro u c hu
    cases u <;> simp [cst1] at hu <;> subst hu <;> rfl
  have many : ∀ {us : List Value} {cs : List SCl}, cstL us = some cs → idsL cs = [] := by
    intro us
    induction us with
    | nil => intro cs hu; simp [cstL] at hu; subst hu; rfl
    | cons u us ih =>
      intro cs hu
      simp only [cstL] at hu
      split at hu
      · rename_i c cs' k1 k2
        cases hu
        rw [show c :: cs' = [c] ++ cs' from rfl, idsL_append, one k1, ih k2]
        rfl
      · cases hu
  unfold zeroT at hz
  split at hz
  · split at hz
    · unfold cst at hz
      split at hz
      · rw [Option.map_eq_some_iff] at hz
        obtain ⟨l, hl, rfl⟩ := hz
        exact many hl
      · cases hz; rfl
      · rw [Option.map_eq_some_iff] at hz
        obtain ⟨l, hl, rfl⟩ := hz
        exact one hl
    · cases hz
  · cases hz
theorem evL_low {e : Operand → Option SV} : ∀ {xs : List Operand} {vs : List SV}, evL e xs = some vs → (∀ x ∈ xs, ∀ s, e x = some s → ∀ m ∈ s.ids, m < n) → ∀ s ∈ vs, ∀ m ∈ s.ids, m < n
  | [], vs, h, _ => by simp [evL] at h; subst h; intro s hs; cases hs
  | x :: xs, vs, h, he => by
    simp only [evL] at h
    split at h
    · rename_i v vs' h1 h2
      cases h
      intro s hs
      rcases List.mem_cons.1 hs with rfl | hs
      · exact he x (List.mem_cons_self ..) _ h1
      · exact evL_low h2 (fun y hy => he y (List.mem_cons_of_mem _ hy)) s hs
    · cases h
theorem evP_low {e : Operand → Option SV} : ∀ {xs : List (Nat × Operand)} {vs : List (Nat × SV)}, evP e xs = some vs → (∀ x ∈ xs.map (·.2), ∀ s, e x = some s → ∀ m ∈ s.ids, m < n) → ∀ p ∈ vs, ∀ m ∈ p.2.ids, m < n
  | [], vs, h, _ => by simp [evP] at h; subst h; intro s hs; cases hs
  | (i, x) :: xs, vs, h, he => by
    simp only [evP] at h
    split at h
    · rename_i v vs' h1 h2
      cases h
      intro s hs
      rcases List.mem_cons.1 hs with rfl | hs
      · exact he x (by simp) _ h1
      · exact evP_low h2 (fun y hy => he y (by simp at hy ⊢; exact .inr hy)) s hs
    · cases h
theorem s1L_low : ∀ {vs : List SV} {ss : List S1}, s1L vs = some ss → (∀ s ∈ vs, ∀ m ∈ s.ids, m < n) → ∀ s ∈ ss, ∀ m ∈ idsL s.cs, m < n
  | [], ss, h, _ => by simp [s1L] at h; subst h; intro s hs; cases hs
  | v :: vs, ss, h, hl => by
    simp only [s1L] at h
    split at h
    · rename_i s r h1 h2
      cases h
      intro t ht
      rcases List.mem_cons.1 ht with rfl | ht
      · have := hl v (List.mem_cons_self ..)
        cases v <;> simp [SV.s1] at h1 <;> subst h1 <;> exact this
      · exact s1L_low h2 (fun u hu => hl u (List.mem_cons_of_mem _ hu)) t ht
    · cases h
theorem s1_den {v : SV} {s : S1} (h : v.s1 = some s) : s.den ρ α = v.den ρ α := by
  cases v <;> simp [SV.s1] at h <;> subst h <;> rfl
theorem s1L_den : ∀ {vs : List SV} {ss : List S1}, s1L vs = some ss → ss.map (S1.den ρ α) = vs.map (SV.den ρ α)
  | [], ss, h => by simp [s1L] at h; subst h; rfl
  | v :: vs, ss, h => by
    simp only [s1L] at h
    split at h
    · rename_i s r h1 h2
      cases h
      simp only [List.map_cons, s1_den h1, s1L_den h2]
    · cases h
theorem putL_low {cs vs : List SCl} {off : Nat} (h1 : ∀ m ∈ idsL cs, m < n) (h2 : ∀ m ∈ idsL vs, m < n) : ∀ m ∈ idsL (putL cs off vs), m < n := by
  intro m hm
  unfold putL at hm
  rw [idsL_append, idsL_append, List.mem_append, List.mem_append] at hm
  rcases hm with (hm | hm) | hm
  · exact h1 m (idsL_take hm)
  · exact h2 m hm
  · exact h1 m (idsL_drop hm)
theorem fillS_low {place : Nat → Option (Nat × Nat)} : ∀ {ps : List (Nat × SV)} {cs out : List SCl}, fillS place cs ps = some out → (∀ m ∈ idsL cs, m < n) → (∀ p ∈ ps, ∀ m ∈ p.2.ids, m < n) → ∀ m ∈ idsL out, m < n
  | [], cs, out, h, h1, _ => by simp [fillS] at h; subst h; exact h1
  | (i, v) :: ps, cs, out, h, h1, h2 => by
    simp only [fillS] at h
    split at h
    · rename_i off size vs k1 k2
      split at h
      · refine fillS_low h (putL_low h1 ?_) fun p hp => h2 p (List.mem_cons_of_mem _ hp)
        rw [cells_ids k2]
        exact h2 (i, v) (List.mem_cons_self ..)
      · cases h
    · cases h
theorem nil_den {a : SCl} {u : Bool} (hu : nilS a = some u) {t : TypeId} (h1 : nilT P t a = true) :
    (∃ el, P.underlying t = some (.slice el) ∧ ∃ A n c, a.den ρ α = .slice A n c ∧ u = A.isNone) ∨ (∃ el, P.underlying t = some (.pointer el) ∧ ∃ A, a.den ρ α = .pointer A ∧ u = A.isNone) ∨
    (∃ x y z, P.underlying t = some (.func x y z) ∧ ((u = false ∧ ∃ f g k, a.den ρ α = .func f g k) ∨ (u = true ∧ a.den ρ α = .nilFunc))) := by
  unfold nilT at h1
  split at h1
  · rename_i hd
    simp [nilS] at hu
    exact .inl ⟨_, hd, _, _, _, rfl, by simp [← hu]⟩
  · rename_i A n c hd
    cases A with
    | none => simp [nilS] at hu; exact .inl ⟨_, hd, _, _, _, rfl, by simp [← hu]⟩
    | some A => simp [nilS] at hu
  · rename_i hd
    simp [nilS] at hu
    exact .inr (.inl ⟨_, hd, _, rfl, by simp [← hu]⟩)
  · rename_i A hd
    cases A with
    | none => simp [nilS] at hu; exact .inr (.inl ⟨_, hd, _, rfl, by simp [← hu]⟩)
    | some A => simp [nilS] at hu
  · rename_i hd
    simp [nilS] at hu
    exact .inr (.inr ⟨_, _, _, hd, .inl ⟨hu, _, _, _, rfl⟩⟩)
  · rename_i hd
    simp [nilS] at hu
    exact .inr (.inr ⟨_, _, _, hd, .inl ⟨hu, _, _, _, rfl⟩⟩)
  · rename_i hd
    simp [nilS] at hu
    exact .inr (.inr ⟨_, _, _, hd, .inr ⟨hu, rfl⟩⟩)
  · cases h1
theorem nil_eq {a b : SCl} {u v : Bool} (hu : nilS a = some u) (hv : nilS b = some v) (h0 : (u || v) = true) {t : TypeId} (h1 : nilT P t a = true) (h2 : nilT P t b = true) (x y : Operand) (w : World) :
    ((binOp .eql t (a.den ρ α) (b.den ρ α)).run P w = .ok (.bool (u && v)) w ∧ (binOp .neq t (a.den ρ α) (b.den ρ α)).run P w = .ok (.bool (!(u && v))) w) ∧ ∀ {op : BinOp}, (eqGuard op t x y (a.den ρ α) (b.den ρ α)).run P w = .ok () w := by
  rcases nil_den (ρ := ρ) (α := α) hu h1 with ⟨el, hd, A, m, c, e1, e2⟩ | ⟨el, hd, A, e1, e2⟩ | ⟨q1, q2, q3, hd, e1⟩
  · rcases nil_den (ρ := ρ) (α := α) hv h2 with ⟨el', hd', A', m', c', e1', e2'⟩ | ⟨el', hd', A', e1', e2'⟩ | ⟨q1', q2', q3', hd', e1'⟩
    · rw [e1, e1']
      subst e2
      subst e2'
      have key : (Op.equal t (.slice A m c) (.slice A' m' c')).run P w = .ok (A.isNone && A'.isNone) w := by
        unfold Op.equal
        rw [show Op.maxDepth = 9999 + 1 from rfl]
        generalize 9999 = D
        cases A <;> cases A' <;> simp [Op.equalIn, run_underlying hd] at h0 ⊢
      refine ⟨⟨?_, ?_⟩, ?_⟩
      · simp [binOp, key]
      · simp [binOp, key]
      · intro op; cases op <;> simp [eqGuard]
    · rw [hd] at hd'; cases hd'
    · rw [hd] at hd'; cases hd'
  · rcases nil_den (ρ := ρ) (α := α) hv h2 with ⟨el', hd', A', m', c', e1', e2'⟩ | ⟨el', hd', A', e1', e2'⟩ | ⟨q1', q2', q3', hd', e1'⟩
    · rw [hd] at hd'; cases hd'
    · rw [e1, e1']
      subst e2
      subst e2'
      have key : (Op.equal t (.pointer A) (.pointer A')).run P w = .ok (A.isNone && A'.isNone) w := by
        unfold Op.equal
        rw [show Op.maxDepth = 9999 + 1 from rfl]
        generalize 9999 = D
        cases A <;> cases A' <;> simp [Op.equalIn, run_underlying hd] at h0 ⊢
      refine ⟨⟨?_, ?_⟩, ?_⟩
      · simp [binOp, key]
      · simp [binOp, key]
      · intro op; cases op <;> simp [eqGuard]
    · rw [hd] at hd'; cases hd'
  · rcases nil_den (ρ := ρ) (α := α) hv h2 with ⟨el', hd', A', m', c', e1', e2'⟩ | ⟨el', hd', A', e1', e2'⟩ | ⟨q1', q2', q3', hd', e1'⟩
    · rw [hd] at hd'; cases hd'
    · rw [hd] at hd'; cases hd'
    · have key : (Op.equal t (a.den ρ α) (b.den ρ α)).run P w = .ok (u && v) w := by
        unfold Op.equal
        rw [show Op.maxDepth = 9999 + 1 from rfl]
        generalize 9999 = D
        rcases e1 with ⟨rfl, f, g, k, e1⟩ | ⟨rfl, e1⟩ <;> rcases e1' with ⟨rfl, f', g', k', e1'⟩ | ⟨rfl, e1'⟩ <;> rw [e1, e1'] <;> simp [Op.equalIn, run_underlying hd] at h0 ⊢
      rcases e1 with ⟨rfl, f, g, k, e1⟩ | ⟨rfl, e1⟩ <;> rcases e1' with ⟨rfl, f', g', k', e1'⟩ | ⟨rfl, e1'⟩ <;> rw [e1, e1'] at key ⊢ <;> refine ⟨⟨?_, ?_⟩, ?_⟩ <;>
        first | (intro op; cases op <;> simp [eqGuard]; done) | simp [binOp, key]
/-- A bound of a slice expression: the default, or the number. -/
def Bd (d : Nat) (o : Option Value) (b : Nat) : Prop := match o with | none => b = d | some v => ∃ k, v = .int k (b : Int)
theorem bnds_run {lo hi mx : Option Value} {len cap cap' l u m : Nat} {isS : Bool} (hl : Bd 0 lo l) (hu : Bd len hi u) (hm : Bd cap mx m) (h1 : l ≤ u) (h2 : u ≤ m) (h3 : m ≤ cap) (h4 : cap ≤ cap') (h5 : hi.isSome = true ∨ mx.isSome = false) :
    (Instr.sliceBounds isS len cap' lo hi mx).run P w = .ok (l, u, if mx.isSome = true then m else cap') w := by
  have hsb : ∀ {v : Value} {b y : Nat} {code : BoundsCode}, (∃ k, v = .int k (b : Int)) → b ≤ y → (Instr.sliceBound v y code).run P w = .ok b w := by
    rintro v b y code ⟨k, rfl⟩ hle
    have h0 : (0 : Int) ≤ b ∧ (b : Int) ≤ y := by omega
    simp [Instr.sliceBound, asIntOf, h0.1, hle]
  unfold Instr.sliceBounds
  cases mx with
  | none =>
    simp only [Bd] at hm
    subst hm
    cases hi with
    | none =>
      simp only [Bd] at hu
      subst hu
      cases lo with
      | none => simp only [Bd] at hl; subst hl; simp
      | some lo => simp [hsb hl h1]
    | some hi =>
      have := hsb (code := if isS = true then .sliceAcap else .sliceAlen) hu (Nat.le_trans h2 h4)
      cases lo with
      | none => simp only [Bd] at hl; subst hl; simp [this]
      | some lo => simp [this, hsb hl h1]
  | some mx =>
    cases hi with
    | none => simp at h5
    | some hi =>
      have e1 := hsb (code := if isS = true then .slice3Acap else .slice3Alen) hm (Nat.le_trans h3 h4)
      cases lo with
      | none => simp only [Bd] at hl; subst hl; simp [e1, hsb hu h2]
      | some lo => simp [e1, hsb hu h2, hsb hl h1]
theorem slice_fin {B off l u m M s ext : Nat} {ex : Bool} (hq : (M = m ∧ ex = true) ∨ (ex = false ∧ M = m + ext ∧ l < m)) :
    (Result.ok (Value.slice (if M = l then some ⟨B, off, none⟩ else some (Addr.add ⟨B, off, none⟩ (l * s))) (u - l) (M - l)) w : Result Value) = .ok (.slice (some ⟨B, if l.beq m = true then off else off + l * s, none⟩) (u - l) (if ex = true then m - l else m - l + ext)) w := by
  have hbq : l.beq m = decide (l = m) := by
    cases hx : l.beq m with
    | true => simp [Nat.eq_of_beq_eq_true hx]
    | false => symm; simpa using Nat.ne_of_beq_eq_false hx
  rw [hbq]
  rcases hq with ⟨rfl, rfl⟩ | ⟨rfl, rfl, hlt⟩
  · by_cases e : M = l
    · subst e; simp
    · simp [e, Ne.symm e, Addr.add_mid]
  · have e1 : ¬ m + ext = l := by omega
    have e2 : ¬ l = m := by omega
    simp [e1, e2, Addr.add_mid]
    omega
theorem reach_sub {h : Vw} : ∀ {k : Nat} {todo : List Nat} {bm : Nat} {seen : List Nat} {out : Nat × List Nat}, reachE h k todo bm seen = some out → (∀ j, bm.testBit j = true → j ∈ seen) → ∀ m, m ∈ todo ∨ m ∈ seen → m ∈ out.2
  | k, [], bm, seen, out, hr, _, m, hm => by
    have : (bm, seen) = out := by cases k <;> simpa [reachE] using hr
    subst this
    exact hm.elim (fun q => by cases q) (fun q => q)
  | 0, id :: r, bm, seen, out, hr, _, m, hm => by simp [reachE] at hr
  | k + 1, id :: r, bm, seen, out, hr, hb, m, hm => by
    have hb' : ∀ j, (bm ||| 2 ^ id).testBit j = true → j ∈ id :: seen := by
      intro j hj
      rw [Nat.testBit_or, Bool.or_eq_true, Nat.testBit_two_pow] at hj
      rcases hj with hj | hj
      · exact List.mem_cons_of_mem _ (hb j hj)
      · rw [← of_decide_eq_true hj]; exact List.mem_cons_self ..
    simp only [reachE] at hr
    split at hr
    · rename_i hs
      refine reach_sub hr hb m ?_
      rcases hm with hm | hm
      · rcases List.mem_cons.1 hm with rfl | hm
        · exact .inr (hb _ hs)
        · exact .inl hm
      · exact .inr hm
    · split at hr <;> (refine reach_sub hr hb' m ?_; rcases hm with hm | hm)
      · rcases List.mem_cons.1 hm with rfl | hm
        · exact .inr (List.mem_cons_self ..)
        · exact .inl (List.mem_append_right _ hm)
      · exact .inr (List.mem_cons_of_mem _ hm)
      · rcases List.mem_cons.1 hm with rfl | hm
        · exact .inr (List.mem_cons_self ..)
        · exact .inl hm
      · exact .inr (List.mem_cons_of_mem _ hm)
theorem tgt_in {fv : SV} {tg : Tg} {caps : List SV} {t0 : List Nat} {h' : Vw} (ht : tgtE h fv = some (tg, caps, t0)) (hh : ∀ id ∈ t0, h' id = h id) : Tg.in h' tg := by
  unfold tgtE at ht
  split at ht
  · cases ht; trivial
  · rename_i id
    split at ht
    · split at ht
      · cases ht; trivial
      · cases ht
    · rename_i y hy
      cases ht
      exact (hh id (List.mem_singleton_self _)).trans hy
    · cases ht
  · cases ht
theorem tgt_t0 {fv : SV} {id : Nat} {y : Yl} {caps : List SV} {t0 : List Nat} (ht : tgtE h fv = some (.yl id y, caps, t0)) : t0 = [id] := by
  unfold tgtE at ht
  split at ht
  · cases ht
  · split at ht
    · split at ht <;> cases ht
    · cases ht; rfl
    · cases ht
  · cases ht
theorem s1_sv {s : S1} {v : SV} (h : s.sv = some v) : v.den ρ α = s.den ρ α := by
  unfold S1.sv at h
  split at h
  · rename_i hs; cases h; simp [S1.den, hs, SV.den]
  · rename_i hs
    split at h
    · rename_i c e; cases h; simp [S1.den, hs, SV.den, e]
    · cases h
theorem svs_den : ∀ {caps : List S1} {vs : List SV}, caps.mapM S1.sv = some vs → vs.map (SV.den ρ α) = caps.map (S1.den ρ α)
  | [], vs, h => by simp at h; subst h; rfl
  | c :: caps, vs, h => by
    rw [List.mapM_cons] at h
    cases h1 : c.sv with
    | none => rw [h1] at h; cases h
    | some v =>
      cases h2 : caps.mapM S1.sv with
      | none => rw [h1, h2] at h; cases h
      | some us =>
        rw [h1, h2] at h
        cases h
        simp only [List.map_cons, s1_sv h1, svs_den h2]
theorem tgt_den {fv : SV} {tg : Tg} {caps : List SV} {t0 : List Nat} (ht : tgtE h fv = some (tg, caps, t0)) (hat : ∀ id ∈ t0, ∀ o, h id = some o → obAt ρ α w id o) :
    (∃ g, tg = .fn g ∧ fv.den ρ α = .func (.func g) #[] (caps.map (SV.den ρ α)).toArray) ∨ (∃ id y, tg = .yl id y ∧ caps = [] ∧ fv.den ρ α = .func (.yield (α id).blk) #[] #[] ∧ h id = some (.yld y)) := by
  unfold tgtE at ht
  split at ht
  · cases ht; exact .inl ⟨_, rfl, rfl⟩
  · rename_i id
    split at ht
    · rename_i g cs hc
      split at ht
      · rename_i vs hvs
        cases ht
        have := hat id (List.mem_singleton_self _) _ hc
        refine .inl ⟨_, rfl, ?_⟩
        simp only [SV.den, SCl.den, this.1, this.2, svs_den hvs]
      · cases ht
    · rename_i y hy
      cases ht
      obtain ⟨fn, tmps, _, _, h3, h4, _⟩ := hat id (List.mem_singleton_self _) _ hy
      exact .inr ⟨_, _, rfl, rfl, by simp only [SV.den, SCl.den, h3, h4], hy⟩
    · cases ht
  · cases ht
theorem callable_run {g : FuncId} (hcb : callable P g = true) (vs : Array Value) (w : World) : (callFunc g vs).run P w = .ok (.enter g vs) w := by
  unfold callable at hcb
  split at hcb
  · rename_i fn hfn
    simp only [Bool.and_eq_true, bne_iff_ne, ne_eq] at hcb
    obtain ⟨hn, hb⟩ := hcb
    have hb' : fn.body.isNone = false := by cases hq : fn.body <;> simp [hq] at hb ⊢
    have hn' : (fn.name == "runtime.NumGoroutine") = false := by simpa using hn
    simp only [callFunc, Sem.run_bind, run_program, Result.andThen_ok, hfn, hn', Bool.false_eq_true, if_false, hb', Sem.run_pure]
  · cases hcb
theorem srcE_first {z : Nat} {xv : SCl} {new : List SCl} {m : Nat} {t1 : List Nat} (hs : srcE h z xv = some (new, m, t1)) (hat : ∀ id ∈ t1, ∀ o, h id = some o → obAt ρ α w id o) :
    (∀ w' : World, (Builtin.lenOf (xv.den ρ α)).run P w' = .ok m w') ∧ (∀ k, k ≤ m → (Builtin.firstCells z k (xv.den ρ α)).run P w = .ok (dens ρ α (new.take (k * z))).toArray w) ∧ new.length = m * z := by
  unfold srcE at hs
  split at hs
  · rename_i id off len cap ex
    split at hs
    · rename_i b hb
      split at hs
      · rename_i hle
        cases hs
        have hle' : off + m * z ≤ b.cs.length := by simpa using hle
        have hb' := hat id (by simp) _ hb
        have hlen : ((b.cs.drop off).take (m * z)).length = m * z := by simp; omega
        refine ⟨fun _ => rfl, fun k hk => ?_, hlen⟩
        have hkz : k * z ≤ m * z := Nat.mul_le_mul_right _ hk
        refine run_firstCells_some w z k ⟨(α id).blk, off, none⟩ m _ _ (by rw [List.length_map, List.length_take, hlen]; omega) fun j u hu => ?_
        rw [Addr.add_mid]
        refine cell_of_blk hb' ?_
        simp only [List.map_take, List.map_drop, List.getElem?_take, List.getElem?_drop] at hu
        split at hu
        · split at hu
          · exact hu
          · cases hu
        · cases hu
      · cases hs
    · cases hs
  · cases hs
    refine ⟨fun _ => rfl, fun k hk => ?_, by simp⟩
    have : k = 0 := by omega
    subst this
    simp [SCl.den, Builtin.firstCells]
  · cases hs
end
end Go.Proofs.Ytmpadjlplgajcaa
