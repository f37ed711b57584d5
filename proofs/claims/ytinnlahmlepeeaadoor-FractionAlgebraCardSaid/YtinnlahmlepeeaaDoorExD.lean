/- The executor's laws: every operation does what it is said to do. -/
import Derived.Test.YtinnlahmlepeeaaDoorExC
namespace Go.Proofs.YtinnlahmlepeeaaDoor
open Go.RowKit

/-- The call does what its tree says, in every world that lies behind W0. -/
def CallOk (P : Program) (ρ : EnvS) (W0 : World) (call : CallF) : Prop :=
  ∀ f args hp nx pc v pc', pc.Ok ρ → (call f args hp nx pc).pick ρ = some (v, pc') → callable P f = true → (∀ s ∈ args, s.below nx = true) → (∀ id b, hp.get id = some b → id < nx ∧ b.cs.all (·.below 0) = true) →
    pc'.Ok ρ ∧ (v.below 0 = true → ∀ (α : Nat → Nat) (w : World), Below W0.heap.size W0 w → (∀ id b, hp.get id = some b → blkAt ρ α w id b) →
      Calls P f (args.map (SV.den ρ α)).toArray w (fun e w' => e = .returned (v.den ρ α) ∧ Below w.heap.size w w'))

theorem Hp.get_cons (id j : Nat) (b : Blk) (r : Hp) : Hp.get id ((j, b) :: r) = if j = id then some b else Hp.get id r := by
  simp only [Hp.get]
  by_cases h : j = id <;> simp [h]
theorem argHp_get {h : Nat → Option Blk} : ∀ {ids : List Nat} {hp : Hp}, argHp h ids = some hp → ∀ {id b}, hp.get id = some b → id ∈ ids ∧ h id = some b ∧ b.cs.all (·.below 0) = true
  | [], hp, hh, id, b, hg => by simp [argHp] at hh; subst hh; simp [Hp.get] at hg
  | i :: r, hp, hh, id, b, hg => by
    simp only [argHp] at hh
    split at hh
    · rename_i c hp' h1 h2
      split at hh
      · rename_i hc
        cases hh
        rw [Hp.get_cons] at hg
        split at hg
        · rename_i e; cases hg; subst e; exact ⟨List.mem_cons_self .., h1, hc⟩
        · have := argHp_get h2 hg; exact ⟨List.mem_cons_of_mem _ this.1, this.2⟩
      · cases hh
    · cases hh
theorem below_ids {n : Nat} {s : SV} (h : s.below n = true) : ∀ id ∈ s.ids, id < n := by
  intro id hm
  have one : ∀ c : SCl, c.below n = true → ∀ id, c.id? = some id → id < n := by
    intro c hc id he
    cases c <;> simp [SCl.id?] at he <;> subst he <;> simpa [SCl.below] using hc
  cases s with
  | one c =>
    simp only [SV.ids, List.mem_filterMap, List.mem_singleton] at hm
    obtain ⟨d, rfl, he⟩ := hm
    exact one _ h _ he
  | agg cs =>
    simp only [SV.ids, List.mem_filterMap] at hm
    obtain ⟨d, hd, he⟩ := hm
    exact one _ (List.all_eq_true.1 h d hd) _ he
  | tup vs =>
    simp only [SV.ids, List.mem_flatMap, List.mem_filterMap] at hm
    obtain ⟨s, hs, d, hd, he⟩ := hm
    exact one _ (List.all_eq_true.1 (List.all_eq_true.1 h s hs) d hd) _ he
section
variable {ρ : EnvS} {α : Nat → Nat} {P : Program}
theorem run_opv {x : Sem Value} {v : Value} {w w' : World} (h : x.run P w = .ok v w') : (do pure (Next.value (← x)) : Sem Next).run P w = .ok (.value v) w' := by
  simp [h]
theorem run_opu {x : Sem Unit} {w w' : World} (h : x.run P w = .ok () w') : (do x; pure Next.skip : Sem Next).run P w = .ok .skip w' := by
  simp [h]
theorem s1_sv {s : S1} {v : SV} (h : s.sv = some v) : v.den ρ α = s.den ρ α := by
  unfold S1.sv at h
  split at h
  · rename_i hs; cases h; simp [S1.den, hs, SV.den]
  · rename_i hs
    split at h
    · rename_i c e; cases h; simp [S1.den, hs, SV.den, e]
    · cases h
theorem mmS_run {f : IE → IE → IE} {g : Int → Int → Int} (m2 : Value → Value → Sem Value) (hf : ∀ a b, (f a b).den ρ = g (a.den ρ) (b.den ρ)) (hm : ∀ k l x y, m2 (.int k x) (.int l y) = pure (.int k (g x y))) :
    ∀ {r : List SV} {k : IntKind} {a : IE} {s : SV}, mmS f k a r = some s → ∀ w : World, ((r.map (SV.den ρ α)).foldlM m2 (.int k (a.den ρ))).run P w = .ok (s.den ρ α) w
  | [], k, a, s, h, w => by simp [mmS] at h; subst h; rfl
  | .one (.int l b) :: r, k, a, s, h, w => by
    simp only [mmS] at h
    simp only [List.map_cons, List.foldlM_cons, SV.den, SCl.den, hm, Sem.run_bind, Sem.run_pure, Result.andThen_ok]
    rw [← hf]
    exact mmS_run m2 hf hm h w
  | .one (.bool _) :: r, k, a, s, h, w => by simp [mmS] at h
  | .one (.ptr _ _) :: r, k, a, s, h, w => by simp [mmS] at h
  | .one (.slc _ _ _ _) :: r, k, a, s, h, w => by simp [mmS] at h
  | .one (.raw _) :: r, k, a, s, h, w => by simp [mmS] at h
  | .agg _ :: r, k, a, s, h, w => by simp [mmS] at h
  | .tup _ :: r, k, a, s, h, w => by simp [mmS] at h
theorem binI_run {pc : PC} (hpc : pc.Ok ρ) {op : BinOp} {t : TypeId} {k : IntKind} {a b : IE} {c : SCl} (h : binI pc op k a b = some c) (x y : Operand) (w : World) :
    (do eqGuard op t x y (.int k (a.den ρ)) (.int k (b.den ρ)); binOp op t (.int k (a.den ρ)) (.int k (b.den ρ)) : Sem Value).run P w = .ok (c.den ρ α) w := by
  have hg : ∀ op, (eqGuard op t x y (.int k (a.den ρ)) (.int k (b.den ρ))).run P w = .ok () w := by
    intro op
    cases op <;> simp [eqGuard]
  rw [Sem.run_bind, hg, Result.andThen_ok]
  cases op <;> simp [binI] at h <;> subst h <;>
    simp [binOp, Op.intArith, Op.intCmp, SCl.den, IE.wrapP_den hpc, IE.addS_den, IE.subS_den, IE.mulS_den, BE.eqS_den, BE.notS_den, BE.ltS_den, BE.leS_den, bne]
theorem place_run {off : Nat} {g : Field} {n : Nat} {id : Nat} (hs : sizeT P g.type = some n) (hn : n ≠ 0) (w : World) :
    (fieldPlace ⟨α id, off, none⟩ g).run P w = .ok ⟨α id, off + g.offset, none⟩ w := by
  simp only [fieldPlace, Sem.run_bind, sizeOf_run' hs, Result.andThen_ok, hn, if_false, Sem.run_pure, Addr.add_mid]
theorem placesM_run : ∀ {fs : List Field} {pl : List (Nat × Nat)}, placesL P fs = some pl → ∀ w : World,
    (fs.mapM (fun f => do pure (f.offset, ← sizeOf f.type) : Field → Sem (Nat × Nat))).run P w = .ok pl w
  | [], pl, h, w => by simp [placesL] at h; subst h; rfl
  | f :: fs, pl, h, w => by
    simp only [placesL] at h
    split at h
    · rename_i n r h1 h2
      cases h
      simp only [List.mapM_cons, Sem.run_bind, sizeOf_run' h1, Result.andThen_ok, Sem.run_pure, placesM_run h2 w]
    · cases h
theorem build_struct {t : TypeId} {fs : Array Field} {pl : List (Nat × Nat)} {z out : List SCl} {ps : List (Nat × SV)} (hz : zeroT P t = some (.agg z)) (hu : P.underlying t = some (.struct fs)) (hpl : placesL P fs.toList = some pl)
    (hf : fillS (fun i => pl[i]?) z ps = some out) (w : World) : (Instr.build t (ps.map fun p => (p.1, p.2.den ρ α)).toArray).run P w = .ok (.agg (dens ρ α out).toArray) w := by
  have hz' : (zeroValue t).run P w = .ok (.agg (dens ρ α z).toArray) w := zero_run (ρ := ρ) (α := α) hz w
  have hm := placesM_run hpl w
  have e : (fun i : Nat => pl.toArray[i]?) = (fun i : Nat => pl[i]?) := by funext i; simp
  have h2 := fillS_den (ρ := ρ) (α := α) hf
  simp only [Instr.build, Sem.run_bind, hz', Result.andThen_ok, Value.cells, run_underlying hu, Array.mapM_eq_mapM_toList, Sem.run_map, hm, e, h2, Sem.run_pure]
theorem build_array {t : TypeId} {n : Nat} {el : TypeId} {s : Nat} {z out : List SCl} {ps : List (Nat × SV)} (hz : zeroT P t = some (.agg z)) (hu : P.underlying t = some (.array n el)) (hs : sizeT P el = some s)
    (hf : fillS (fun i => some (i * s, s)) z ps = some out) (w : World) : (Instr.build t (ps.map fun p => (p.1, p.2.den ρ α)).toArray).run P w = .ok (.agg (dens ρ α out).toArray) w := by
  have hz' : (zeroValue t).run P w = .ok (.agg (dens ρ α z).toArray) w := zero_run (ρ := ρ) (α := α) hz w
  have h2 := fillS_den (ρ := ρ) (α := α) hf
  simp only [Instr.build, Sem.run_bind, hz', Result.andThen_ok, Value.cells, run_underlying hu, sizeOf_run' hs, h2, Sem.run_pure]
theorem range_zero (m s : Nat) (zs : List SCl) (hs : zs.length = s) (h0 : 0 < s) :
    (Array.range m).map (fun i => (dens ρ α zs).toArray[i % (dens ρ α zs).toArray.size]!) = (dens ρ α ((List.range m).map fun i => zs.getD (i % s) (.raw undef))).toArray := by
  apply Array.ext'
  simp only [Array.toList_map, Array.toList_range, List.map_map]
  apply List.map_congr_left
  intro i _
  have h1 : i % s < zs.length := by rw [hs]; exact Nat.mod_lt _ h0
  have h2 : (dens ρ α zs).toArray.size = s := by simp [hs]
  rw [h2]
  simp [Function.comp, h1]

theorem op_sound {call : CallF} {W0 : World} (hcall : CallOk P ρ W0 call) {lo : Nat} {pc : PC} (hpc : pc.Ok ρ) {e : Operand → Option SV} {h : Nat → Option Blk} {fresh : Nat} {o : Oper} {r : Res}
    (hr : (opE P call lo pc e h fresh o).pick ρ = some r) {a : Act} {w : World} (he : ∀ x ∈ o.op.operands, ∀ s, e x = some s → a.eval x = s.den ρ α) (hw0 : Below W0.heap.size W0 w)
    (hh : ∀ id ∈ touch e o, ∀ b, h id = some b → blkAt ρ α w id b) :
    r.2.2.Ok ρ ∧ Does P o a w (EffR ρ α w r) := by
  obtain ⟨dst, op, type, pos, after, guard⟩ := o
  have done : ∀ {pc' : PC} {x : Option SV}, pc'.Ok ρ → (val pc' x).pick ρ = some r → (∀ v, x = some v → (execOp a.eval ⟨dst, op, type, pos, after, guard⟩).run P w = .ok (.value (v.den ρ α)) w) →
      r.2.2.Ok ρ ∧ Does P ⟨dst, op, type, pos, after, guard⟩ a w (EffR ρ α w r) := by
    intro pc' x h1 h2 h3
    obtain ⟨v, hv, rfl⟩ := val_some h2
    exact ⟨h1, .value (h3 v hv) EffR.val⟩
  cases op with
  | move x => exact done hpc hr fun v hv => by simp only [execOp]; rw [he x (by simp [Op.operands]) v hv]; rfl
  | assign x => exact done hpc hr fun v hv => by simp only [execOp]; rw [he x (by simp [Op.operands]) v hv]; rfl
  | pick c x y =>
    simp only [opE] at hr
    split at hr
    · rename_i b hb
      obtain ⟨pc', h1, h2⟩ := T.cond_some hpc hr
      refine done h1 h2 fun v hv => ?_
      have ec : a.eval c = .bool (b.den ρ) := he c (by simp [Op.operands]) _ hb
      simp only [execOp, ec, asBool, Sem.run_bind, Sem.run_pure, Result.andThen_ok]
      cases hq : b.den ρ
      · rw [hq] at hv; simp only [Bool.false_eq_true, if_false] at hv ⊢; rw [he y (by simp [Op.operands]) v hv]
      · rw [hq] at hv; simp only [if_true] at hv ⊢; rw [he x (by simp [Op.operands]) v hv]
    · exact (T.bad_some hr).elim
  | alloc t =>
    simp only [opE] at hr
    split at hr
    · rename_i z hz
      split at hr
      · rename_i cs hcs
        have := T.ret_some hr
        subst this
        refine ⟨hpc, .value (v := .pointer (some ⟨w.heap.size, 0, none⟩)) (w' := w.alloc (.cells (dens ρ α cs).toArray t)) ?_ ⟨fun α' ha => by simp [SV.den, SCl.den, ha], rfl⟩⟩
        simp only [execOp]
        refine run_opv ?_
        simp only [Instr.alloc, Sem.run_bind, zero_run (ρ := ρ) (α := α) hz, Result.andThen_ok, newVar, newRow, cells_den ρ α hcs, run_newObj, Sem.run_pure, World.alloc]
      · exact (T.bad_some hr).elim
    · exact (T.bad_some hr).elim
  | box t x =>
    simp only [opE] at hr
    split at hr
    · rename_i z hz
      split at hr
      · rename_i cs hcs
        have := T.ret_some hr
        subst this
        refine ⟨hpc, .value (v := .pointer (some ⟨w.heap.size, 0, none⟩)) (w' := w.alloc (.cells (dens ρ α cs).toArray t)) ?_ ⟨fun α' ha => by simp [SV.den, SCl.den, ha], rfl⟩⟩
        simp only [execOp]
        refine run_opv ?_
        rw [he x (by simp [Op.operands]) _ hz]
        simp only [Instr.box, Sem.run_bind, newVar, newRow, cells_den ρ α hcs, run_newObj, Result.andThen_ok, Sem.run_pure, World.alloc]
      · exact (T.bad_some hr).elim
    · exact (T.bad_some hr).elim
  | build t parts =>
    simp only [opE] at hr
    have hparts : ∀ {ps}, evP e parts.toList = some ps → (parts.map fun (i, x) => (i, a.eval x)) = (ps.map fun p => (p.1, p.2.den ρ α)).toArray := by
      intro ps hps
      rw [← evP_den hps (fun x hx s hs => he x (by simp only [Op.operands]; simpa using hx) s hs)]
      apply Array.ext'
      simp
    split at hr
    · rename_i z ps fs hz hps hu
      split at hr
      · rename_i pl hpl
        refine done hpc hr fun v hv => ?_
        rw [Option.map_eq_some_iff] at hv
        obtain ⟨cs, hcs, rfl⟩ := hv
        simp only [execOp]
        refine run_opv ?_
        rw [hparts hps]
        exact build_struct hz hu hpl hcs w
      · exact (T.bad_some hr).elim
    · rename_i z ps n el hz hps hu
      split at hr
      · rename_i s hs
        refine done hpc hr fun v hv => ?_
        rw [Option.map_eq_some_iff] at hv
        obtain ⟨cs, hcs, rfl⟩ := hv
        simp only [execOp]
        refine run_opv ?_
        rw [hparts hps]
        exact build_array hz hu hs hcs w
      · exact (T.bad_some hr).elim
    · exact (T.bad_some hr).elim
  | load t x =>
    simp only [opE] at hr
    split at hr
    · rename_i id off hx
      split at hr
      · rename_i b hb
        refine done hpc hr fun v hv => ?_
        have hblk := hh id (by simp [touch, hx]) b hb
        simp only [execOp]
        refine run_opv ?_
        rw [he x (by simp [Op.operands]) _ hx]
        simp only [Instr.loadAt, Instr.sureAddr, SV.den, SCl.den, Sem.run_bind, Sem.run_pure, Result.andThen_ok]
        exact loadVar_run hblk hv
      · exact (T.bad_some hr).elim
    · exact (T.bad_some hr).elim
  | store t x y =>
    simp only [opE] at hr
    split at hr
    · rename_i id off v n hx hy hn
      split at hr
      · rename_i b cs hb hcs
        split at hr
        · rename_i hc
          simp only [Bool.and_eq_true, Nat.ble_eq] at hc
          obtain ⟨⟨⟨hl, hle⟩, _⟩, h1⟩ := hc
          have := T.ret_some hr
          subst this
          have hblk := hh id (by simp [touch, hx]) b hb
          refine ⟨hpc, .skip (w' := w.setRow (α id) (dens ρ α (putL b.cs off cs)).toArray) ?_ ⟨rfl, rfl⟩⟩
          simp only [execOp]
          refine run_opu ?_
          rw [he x (by simp [Op.operands]) _ hx, he y (by simp [Op.operands]) _ hy]
          simp only [Instr.storeAt, Instr.sureAddr, SV.den, SCl.den, Sem.run_bind, Sem.run_pure, Result.andThen_ok]
          exact storeVar_run hblk hcs hn (Nat.eq_of_beq_eq_true hl) hle h1
        · exact (T.bad_some hr).elim
      · exact (T.bad_some hr).elim
    · exact (T.bad_some hr).elim
  | nilCheck x =>
    simp only [opE] at hr
    split at hr
    · rename_i id off hx
      refine done hpc hr fun v hv => ?_
      cases hv
      simp only [execOp, he x (by simp [Op.operands]) _ hx, SV.den, SCl.den]
      rfl
    · exact (T.bad_some hr).elim
  | binOp op t x y ty =>
    simp only [opE] at hr
    split at hr
    · rename_i k i l j hx hy
      split at hr
      · rename_i hk
        have hk' := same_kind hk
        subst hk'
        have ex := he x (by simp [Op.operands]) _ hx
        have ey := he y (by simp [Op.operands]) _ hy
        simp only [SV.den, SCl.den] at ex ey
        have hg : ∀ op, (eqGuard op t x y (.int k (i.den ρ)) (.int k (j.den ρ))).run P w = .ok () w := by
          intro op
          cases op <;> simp [eqGuard]
        have quo : j.den ρ ≠ 0 → (execOp a.eval ⟨dst, .binOp .quo t x y ty, type, pos, after, guard⟩).run P w = .ok (.value (.int k (k.wrap ((i.den ρ).tdiv (j.den ρ))))) w := by
          intro hj
          simp only [execOp, ex, ey]
          refine run_opv ?_
          rw [Sem.run_bind, hg, Result.andThen_ok]
          simp [binOp, Op.intDiv, hj]
        have rem : j.den ρ ≠ 0 → (execOp a.eval ⟨dst, .binOp .rem t x y ty, type, pos, after, guard⟩).run P w = .ok (.value (.int k ((i.den ρ).tmod (j.den ρ)))) w := by
          intro hj
          simp only [execOp, ex, ey]
          refine run_opv ?_
          rw [Sem.run_bind, hg, Result.andThen_ok]
          simp [binOp, Op.intDiv, hj]
        have plain : ∀ {v}, (binI pc op k i j).map SV.one = some v → (execOp a.eval ⟨dst, .binOp op t x y ty, type, pos, after, guard⟩).run P w = .ok (.value (v.den ρ α)) w := by
          intro v hv
          rw [Option.map_eq_some_iff] at hv
          obtain ⟨c, hc, rfl⟩ := hv
          simp only [execOp, ex, ey]
          exact run_opv (binI_run hpc hc x y w)
        split at hr
        · split at hr
          · split at hr
            · exact (T.bad_some hr).elim
            · rename_i n hn
              refine done hpc hr fun v hv => ?_
              cases hv
              rw [quo (by simpa [IE.den] using hn)]
              simp only [SV.den, SCl.den, IE.wrapP_den hpc, IE.bin_den ρ Int.tdiv IE.quo (fun _ _ => rfl)]
          · obtain ⟨pc', h1, h2⟩ := T.cond_some hpc hr
            split at h2
            · exact (T.bad_some h2).elim
            · rename_i hz
              refine done h1 h2 fun v hv => ?_
              cases hv
              rw [quo (by simpa [BE.eqS_den, IE.den] using hz)]
              simp only [SV.den, SCl.den, IE.wrapP_den h1, IE.den]
        · split at hr
          · split at hr
            · exact (T.bad_some hr).elim
            · rename_i n hn
              refine done hpc hr fun v hv => ?_
              cases hv
              rw [rem (by simpa [IE.den] using hn)]
              simp only [SV.den, SCl.den, IE.bin_den ρ Int.tmod IE.rem (fun _ _ => rfl)]
          · obtain ⟨pc', h1, h2⟩ := T.cond_some hpc hr
            split at h2
            · exact (T.bad_some h2).elim
            · rename_i hz
              refine done h1 h2 fun v hv => ?_
              cases hv
              rw [rem (by simpa [BE.eqS_den, IE.den] using hz)]
              simp only [SV.den, SCl.den, IE.den]
        · exact done hpc hr fun v hv => plain hv
      · exact (T.bad_some hr).elim
    · rename_i xs ys hx hy
      have ex : a.eval x = .agg (dens ρ α xs).toArray := he x (by simp [Op.operands]) _ hx
      have ey : a.eval y = .agg (dens ρ α ys).toArray := he y (by simp [Op.operands]) _ hy
      split at hr
      · rename_i ks hks hagg
        split at hr
        · rename_i hc
          simp only [Bool.and_eq_true, Bool.not_eq_true'] at hc
          obtain ⟨_, hgd⟩ := hc
          have key : ∀ {c : BE}, eqCells ks xs ys = some c → (Op.equal t (.agg (dens ρ α xs).toArray) (.agg (dens ρ α ys).toArray)).run P w = .ok (c.den ρ) w := by
            intro c hc
            have h1 := eqCells_den (ρ := ρ) (α := α) hc
            have h2 := eqFlat hks 10000 (by decide) _ _ _ h1 w
            simp only [winV, hagg] at h2
            exact h2
          have hg := run_eqGuard_agg (P := P) w op t x y (dens ρ α xs).toArray (dens ρ α ys).toArray hgd
          split at hr
          · refine done hpc hr fun v hv => ?_
            rw [Option.map_eq_some_iff] at hv
            obtain ⟨c, hc, rfl⟩ := hv
            simp only [execOp, ex, ey]
            refine run_opv ?_
            rw [Sem.run_bind, hg, Result.andThen_ok]
            simp only [binOp, Sem.run_bind, key hc, Result.andThen_ok, Sem.run_pure, SV.den, SCl.den]
          · refine done hpc hr fun v hv => ?_
            rw [Option.map_eq_some_iff] at hv
            obtain ⟨c, hc, rfl⟩ := hv
            simp only [execOp, ex, ey]
            refine run_opv ?_
            rw [Sem.run_bind, hg, Result.andThen_ok]
            simp only [binOp, Sem.run_bind, key hc, Result.andThen_ok, Sem.run_pure, SV.den, SCl.den, BE.notS_den]
          · exact (T.bad_some hr).elim
        · exact (T.bad_some hr).elim
      · exact (T.bad_some hr).elim
    · rename_i p q hx hy
      have ex : a.eval x = .bool (p.den ρ) := he x (by simp [Op.operands]) _ hx
      have ey : a.eval y = .bool (q.den ρ) := he y (by simp [Op.operands]) _ hy
      split at hr
      · rename_i hu
        have hg : ∀ op, (eqGuard op t x y (.bool (p.den ρ)) (.bool (q.den ρ))).run P w = .ok () w := by
          intro op
          cases op <;> simp [eqGuard]
        split at hr
        · obtain ⟨pc', h1, h2⟩ := T.cond_some hpc hr
          refine done h1 h2 fun v hv => ?_
          cases hv
          simp only [execOp, ex, ey]
          refine run_opv ?_
          rw [Sem.run_bind, hg, Result.andThen_ok, run_eql_bool w t _ _ hu]
          cases p.den ρ <;> simp [SV.den, SCl.den, BE.notS_den]
        · obtain ⟨pc', h1, h2⟩ := T.cond_some hpc hr
          refine done h1 h2 fun v hv => ?_
          cases hv
          simp only [execOp, ex, ey]
          refine run_opv ?_
          rw [Sem.run_bind, hg, Result.andThen_ok, run_neq_bool w t _ _ hu]
          cases p.den ρ <;> simp [SV.den, SCl.den, BE.notS_den]
        · exact (T.bad_some hr).elim
      · exact (T.bad_some hr).elim
    · exact (T.bad_some hr).elim
  | unOp op t x =>
    simp only [opE] at hr
    split at hr
    · rename_i k b hx
      refine done hpc hr fun v hv => ?_
      cases hv
      simp only [execOp]
      refine run_opv ?_
      rw [he x (by simp [Op.operands]) _ hx]
      simp only [Op.unary, SV.den, SCl.den, Op.intArith, IE.wrapP_den hpc, IE.subS_den, IE.den]
      rfl
    · rename_i b hx
      refine done hpc hr fun v hv => ?_
      cases hv
      simp only [execOp]
      refine run_opv ?_
      rw [he x (by simp [Op.operands]) _ hx]
      simp only [Op.unary, SV.den, SCl.den, BE.notS_den]
      rfl
    · exact (T.bad_some hr).elim
  | convert s d x =>
    simp only [opE] at hr
    split at hr
    · rename_i sd k l i hs hd hx
      refine done hpc hr fun v hv => ?_
      cases hv
      simp only [execOp]
      refine run_opv ?_
      rw [he x (by simp [Op.operands]) _ hx]
      simp only [convert, Sem.run_bind, run_underlying hs, run_underlying hd, Result.andThen_ok, SV.den, SCl.den, IE.wrapP_den hpc]
      cases sd <;> rfl
    · exact (T.bad_some hr).elim
  | fieldAddr s x f =>
    simp only [opE] at hr
    split at hr
    · rename_i fs id off hu hx
      split at hr
      · rename_i g hg
        split at hr
        · rename_i n hn
          split at hr
          · exact (T.bad_some hr).elim
          · rename_i hz
            refine done hpc hr fun v hv => ?_
            cases hv
            simp only [execOp]
            refine run_opv ?_
            rw [he x (by simp [Op.operands]) _ hx]
            have hp := place_run (P := P) (α := α) (off := off) (id := id) hn (by simpa using hz) w
            simp only [Instr.fieldAt, Sem.run_bind, run_underlying hu, Result.andThen_ok, hg, Instr.sureAddr, SV.den, SCl.den, Sem.run_pure, hp]
        · exact (T.bad_some hr).elim
      · exact (T.bad_some hr).elim
    · exact (T.bad_some hr).elim
  | field t x f =>
    simp only [opE] at hr
    split at hr
    · rename_i fs cs hu hx
      split at hr
      · rename_i g hg
        refine done hpc hr fun v hv => ?_
        simp only [execOp]
        refine run_opv ?_
        rw [he x (by simp [Op.operands]) _ hx]
        simp only [Instr.field, Sem.run_bind, run_underlying hu, Result.andThen_ok, hg, SV.den, asAgg, Sem.run_pure, partS_run hv]
      · exact (T.bad_some hr).elim
    · exact (T.bad_some hr).elim
  | indexAddr t x i =>
    simp only [opE] at hr
    split at hr
    · rename_i len el id off k n hu hx hi
      split at hr
      · rename_i s hs
        split at hr
        · rename_i hb
          simp only [Bool.and_eq_true, decide_eq_true_eq] at hb
          refine done hpc hr fun v hv => ?_
          cases hv
          simp only [execOp]
          refine run_opv ?_
          rw [he x (by simp [Op.operands]) _ hx, he i (by simp [Op.operands]) _ hi]
          simp only [Instr.indexAt, asIntOf, SV.den, SCl.den, IE.den, Sem.run_bind, Sem.run_pure, Result.andThen_ok, run_underlying hu, Instr.sureAddr, hb, and_self, if_true, sizeOf_run' hs, Addr.add_mid]
        · exact (T.bad_some hr).elim
      · exact (T.bad_some hr).elim
    · rename_i el id off len cap k n hu hx hi
      split at hr
      · rename_i s hs
        split at hr
        · rename_i hb
          simp only [Bool.and_eq_true, decide_eq_true_eq] at hb
          refine done hpc hr fun v hv => ?_
          cases hv
          simp only [execOp]
          refine run_opv ?_
          rw [he x (by simp [Op.operands]) _ hx, he i (by simp [Op.operands]) _ hi]
          simp only [Instr.indexAt, asIntOf, SV.den, SCl.den, IE.den, Sem.run_bind, Sem.run_pure, Result.andThen_ok, run_underlying hu, hb, and_self, if_true, sizeOf_run' hs, Addr.add_mid]
        · exact (T.bad_some hr).elim
      · exact (T.bad_some hr).elim
    · exact (T.bad_some hr).elim
  | index t x i =>
    simp only [opE] at hr
    split at hr
    · rename_i len el cs k n hu hx hi
      split at hr
      · rename_i s hs
        split at hr
        · rename_i hb
          simp only [Bool.and_eq_true, decide_eq_true_eq] at hb
          refine done hpc hr fun v hv => ?_
          simp only [execOp]
          refine run_opv ?_
          rw [he x (by simp [Op.operands]) _ hx, he i (by simp [Op.operands]) _ hi]
          simp only [Instr.index, asIntOf, SV.den, SCl.den, IE.den, Sem.run_bind, Sem.run_pure, Result.andThen_ok, run_underlying hu, hb, and_self, if_true, sizeOf_run' hs, partS_run hv]
        · exact (T.bad_some hr).elim
      · exact (T.bad_some hr).elim
    · exact (T.bad_some hr).elim
  | extract x i =>
    simp only [opE] at hr
    split at hr
    · rename_i vs hx
      split at hr
      · rename_i s hs
        refine done hpc hr fun v hv => ?_
        simp only [execOp]
        refine run_opv ?_
        have ex : a.eval x = .tuple (vs.map (S1.den ρ α)).toArray := he x (by simp [Op.operands]) _ hx
        have e1 : (vs.map (S1.den ρ α)).toArray[i]? = some (s.den ρ α) := by simp [hs]
        rw [ex, s1_sv hv]
        simp only [Instr.extract, e1]
        rfl
      · exact (T.bad_some hr).elim
    · exact (T.bad_some hr).elim
  | buildSlice t len parts =>
    simp only [opE] at hr
    split at hr
    · rename_i el ps hu hps
      split at hr
      · rename_i s z hs hz
        split at hr
        · rename_i zs hzs
          split at hr
          · rename_i hc
            simp only [Bool.and_eq_true, Nat.ble_eq, Nat.blt_eq] at hc
            obtain ⟨⟨⟨hl, h0⟩, h1⟩, hle⟩ := hc
            split at hr
            · rename_i cs hcs
              have := T.ret_some hr
              subst this
              have hparts : (parts.map fun (i, x) => (i, a.eval x)) = (ps.map fun p => (p.1, p.2.den ρ α)).toArray := by
                rw [← evP_den hps (fun x hx s hs => he x (by simp only [Op.operands]; simpa using hx) s hs)]
                apply Array.ext'
                simp
              refine ⟨hpc, .value (v := .slice (some ⟨w.heap.size, 0, none⟩) len len) (w' := w.alloc (.cells (dens ρ α cs).toArray el)) ?_ ⟨fun α' ha => by simp [SV.den, SCl.den, ha], rfl⟩⟩
              simp only [execOp]
              refine run_opv ?_
              rw [hparts]
              have hf := fillS_den (ρ := ρ) (α := α) hcs
              have hne : ¬ (len * s = 0) := by have := Nat.mul_pos h1 h0; omega
              have hsm : ¬ (len * s > 2 ^ 24) := by omega
              have hz' := zero_run (ρ := ρ) (α := α) hz w
              have hcz := cells_den ρ α hzs
              have hr0 := range_zero (ρ := ρ) (α := α) (len * s) s zs (Nat.eq_of_beq_eq_true hl) h0
              simp only [Instr.buildSlice, Sem.run_bind, run_underlying hu, Result.andThen_ok, sizeOf_run' hs, hsm, if_false, hne, hz', hcz, Sem.run_pure, hr0, hf, newRow, run_newObj, World.alloc]
            · exact (T.bad_some hr).elim
          · exact (T.bad_some hr).elim
        · exact (T.bad_some hr).elim
      · exact (T.bad_some hr).elim
    · exact (T.bad_some hr).elim
  | call c =>
    obtain ⟨callee, args, argTypes⟩ := c
    simp only [opE] at hr
    split at hr
    · split at hr
      · rename_i x t ts hargs htys
        have hx0 : x ∈ (Op.call ⟨.builtin .len, args, argTypes⟩).operands := by
          simp only [Op.operands, Call.operands]
          have : x ∈ args := by rw [← Array.mem_toList_iff, hargs]; simp
          simp [this]
        obtain rfl : args = #[x] := by apply Array.ext'; simpa using hargs
        obtain rfl : argTypes = (t :: ts).toArray := by apply Array.ext'; simpa using htys
        have run : ∀ {v : Value}, (Builtin.len_ (t :: ts).toArray type #[a.eval x]).run P w = .ok v w → (execOp a.eval ⟨dst, .call ⟨.builtin .len, #[x], (t :: ts).toArray⟩, type, pos, after, guard⟩).run P w = .ok (.value v) w := by
          intro v hv
          simp only [execOp, resolve, Sem.run_bind, Sem.run_pure, Result.andThen_ok, invoke, builtin]
          simp [hv]
        split at hr
        · rename_i el id off n cap hu hx
          refine done hpc hr fun v hv => ?_
          cases hv
          have ex : a.eval x = .slice (some ⟨α id, off, none⟩) n cap := he x hx0 _ hx
          refine run ?_
          simp [Builtin.len_, run_underlying hu, ex, goInt, SV.den, SCl.den, IE.den]
        · rename_i n el v' hu hx
          refine done hpc hr fun v hv => ?_
          cases hv
          refine run ?_
          simp only [Builtin.len_, List.getElem?_toArray, List.getElem?_cons_zero, Sem.run_bind, run_underlying hu, Result.andThen_ok]
          cases a.eval x <;> rfl
        · exact (T.bad_some hr).elim
      · exact (T.bad_some hr).elim
    · split at hr
      · rename_i k i r hargs
        refine done hpc hr fun v hv => ?_
        have ha : (args.map a.eval).toList = .int k (i.den ρ) :: r.map (SV.den ρ α) := by
          rw [Array.toList_map, evL_den hargs (fun x hx s hs => he x (by simp only [Op.operands, Call.operands]; simpa using hx) s hs)]
          rfl
        simp only [execOp, resolve, Sem.run_bind, Sem.run_pure, Result.andThen_ok, invoke, builtin]
        have := mmS_run (ρ := ρ) (α := α) (P := P) (f := mnS) (g := fun x y => if y < x then y else x) Builtin.min2 (fun a b => IE.bin_den ρ _ _ (fun _ _ => rfl) a b) (fun _ _ _ _ => rfl) hv w
        simp only [Builtin.min_, ha, this, Result.andThen_ok]
      · exact (T.bad_some hr).elim
    · split at hr
      · rename_i k i r hargs
        refine done hpc hr fun v hv => ?_
        have ha : (args.map a.eval).toList = .int k (i.den ρ) :: r.map (SV.den ρ α) := by
          rw [Array.toList_map, evL_den hargs (fun x hx s hs => he x (by simp only [Op.operands, Call.operands]; simpa using hx) s hs)]
          rfl
        simp only [execOp, resolve, Sem.run_bind, Sem.run_pure, Result.andThen_ok, invoke, builtin]
        have := mmS_run (ρ := ρ) (α := α) (P := P) (f := mxS) (g := fun x y => if y > x then y else x) Builtin.max2 (fun a b => IE.bin_den ρ _ _ (fun _ _ => rfl) a b) (fun _ _ _ _ => rfl) hv w
        simp only [Builtin.max_, ha, this, Result.andThen_ok]
      · exact (T.bad_some hr).elim
    · rename_i f
      split at hr
      · rename_i g args' hf hargs
        split at hr
        · rename_i hc
          simp only [Bool.and_eq_true, List.all_eq_true] at hc
          obtain ⟨hlow, hcb⟩ := hc
          split at hr
          · rename_i hp hhp
            obtain ⟨⟨v, pc'⟩, h1, h2⟩ := T.bind_some hr
            split at h2
            · rename_i hv0
              have := T.ret_some h2
              subst this
              have hok := hcall g args' hp fresh pc v pc' hpc h1 hcb hlow (fun id b hg => by
                obtain ⟨g1, _, g3⟩ := argHp_get hhp hg
                obtain ⟨s, hs, hi⟩ := List.mem_flatMap.1 g1
                exact ⟨below_ids (hlow s hs) id hi, g3⟩)
              refine ⟨hok.1, .enter (f := g) (args := (args'.map (SV.den ρ α)).toArray) ?_ ?_⟩
              · have ef : a.eval f = .func (.func g) #[] #[] := he f (by simp [Op.operands, Call.operands]) _ hf
                have ha : args.map a.eval = (args'.map (SV.den ρ α)).toArray := by
                  apply Array.ext'
                  rw [Array.toList_map, evL_den hargs (fun x hx s hs => he x (by simp only [Op.operands, Call.operands]; simp; exact .inr (by simpa using hx)) s hs)]
                have hcf : ∀ vs : Array Value, (callFunc g vs).run P w = .ok (.enter g vs) w := by
                  intro vs
                  unfold callable at hcb
                  split at hcb
                  · rename_i fn hfn
                    simp only [Bool.and_eq_true, bne_iff_ne, ne_eq] at hcb
                    obtain ⟨hn, hb⟩ := hcb
                    have hb' : fn.body.isNone = false := by cases hq : fn.body <;> simp [hq] at hb ⊢
                    have hn' : (fn.name == "runtime.NumGoroutine") = false := by simpa using hn
                    simp only [callFunc, Sem.run_bind, run_program, Result.andThen_ok, hfn, hn', Bool.false_eq_true, if_false, hb', Sem.run_pure]
                  · cases hcb
                simp only [execOp, resolve, Deferred.ofValue, ef, Sem.run_bind, Sem.run_pure, Result.andThen_ok, invoke, ha]
                simpa using hcf _
              · refine (hok.2 hv0 α w hw0 (fun id b hg => hh id ?_ b (argHp_get hhp hg).2.1)).mono ?_
                · have := (argHp_get hhp hg).1
                  simpa [touch, hargs] using this
                · rintro e w' ⟨rfl, hb⟩
                  exact ⟨_, rfl, rfl, hb⟩
            · exact (T.bad_some h2).elim
          · exact (T.bad_some hr).elim
        · exact (T.bad_some hr).elim
      · exact (T.bad_some hr).elim
    · exact (T.bad_some hr).elim
  | _ => exact (T.bad_some (by simpa only [opE] using hr)).elim
end
end Go.Proofs.YtinnlahmlepeeaaDoor
