/- The executor's laws: every operation does what it is said to do. -/
import Derived.Test.YtmpadjlplgajcaaE4F
namespace Go.Proofs.Ytmpadjlplgajcaa
open Go.RowKit
section
variable {ρ : EnvS} {α : Nat → Pl} {P : Program}
theorem run_opv {x : Sem Value} {v : Value} {w w' : World} (h : x.run P w = .ok v w') : (do pure (Next.value (← x)) : Sem Next).run P w = .ok (.value v) w' := by
  simp [h]
theorem run_opu {x : Sem Unit} {w w' : World} (h : x.run P w = .ok () w') : (do x; pure Next.skip : Sem Next).run P w = .ok .skip w' := by
  simp [h]
theorem map0 (f : Nat → Value) : (Array.range 0).map f = #[] := by apply Array.ext'; simp
theorem mmS_run {f : IE → IE → IE} {g : Int → Int → Int} (m2 : Value → Value → Sem Value) (hf : ∀ a b, (f a b).den ρ = g (a.den ρ) (b.den ρ)) (hm : ∀ k l x y, m2 (.int k x) (.int l y) = pure (.int k (g x y))) :
    ∀ {r : List SV} {k : IntKind} {a : IE} {s : SV}, mmS f k a r = some s → ∀ w : World, ((r.map (SV.den ρ α)).foldlM m2 (.int k (a.den ρ))).run P w = .ok (s.den ρ α) w
  | [], k, a, s, h, w => by simp [mmS] at h; subst h; rfl
  | .one (.int l b) :: r, k, a, s, h, w => by
    simp only [mmS] at h
    simp only [List.map_cons, List.foldlM_cons, SV.den, SCl.den, hm, Sem.run_bind, Sem.run_pure, Result.andThen_ok]
    rw [← hf]
    exact mmS_run m2 hf hm h w
  | .one (.bool _) :: r, k, a, s, h, w => by simp [mmS] at h
  | .one (.ptr _ _) :: r, k, a, s, h, w => by simp [mmS] at h
  | .one (.slc _ _ _ _ _) :: r, k, a, s, h, w => by simp [mmS] at h
  | .one (.nm _) :: r, k, a, s, h, w => by simp [mmS] at h
  | .one (.raw _) :: r, k, a, s, h, w => by simp [mmS] at h
  | .one (.ssl _) :: r, k, a, s, h, w => by simp [mmS] at h
  | .one (.ept _ _ _) :: r, k, a, s, h, w => by simp [mmS] at h
  | .one (.opq _ _ _) :: r, k, a, s, h, w => by simp [mmS] at h
  | .one (.str _) :: r, k, a, s, h, w => by simp [mmS] at h
  | .one (.bls _ _) :: r, k, a, s, h, w => by simp [mmS] at h
  | .one (.bpt _ _ _ _) :: r, k, a, s, h, w => by simp [mmS] at h
  | .one (.empL _) :: r, k, a, s, h, w => by simp [mmS] at h
  | .one (.empB _) :: r, k, a, s, h, w => by simp [mmS] at h
  | .one (.blc _ _ _ _ _ _) :: r, k, a, s, h, w => by simp [mmS] at h
  | .agg _ :: r, k, a, s, h, w => by simp [mmS] at h
  | .tup _ :: r, k, a, s, h, w => by simp [mmS] at h
theorem binI_run {pc : PC} (hpc : pc.Ok ρ) {op : BinOp} {t : TypeId} {k : IntKind} {a b : IE} {c : SCl} (h : binI pc op k a b = some c) (x y : Operand) (w : World) :
    (do eqGuard op t x y (.int k (a.den ρ)) (.int k (b.den ρ)); binOp op t (.int k (a.den ρ)) (.int k (b.den ρ)) : Sem Value).run P w = .ok (c.den ρ α) w := by
  have hg : ∀ op, (eqGuard op t x y (.int k (a.den ρ)) (.int k (b.den ρ))).run P w = .ok () w := by
    intro op
    cases op <;> simp [eqGuard]
  rw [Sem.run_bind, hg, Result.andThen_ok]
  have bits : ∀ {op : BinOp} {r : Int}, bitL op k a b = some r → (binOp op t (.int k (a.den ρ)) (.int k (b.den ρ))).run P w = .ok (.int k r) w := by
    intro op r hb
    unfold bitL at hb
    split at hb
    · cases op <;> simp at hb <;> subst hb <;> simp [binOp, Op.intBits, IE.den]
    · cases hb
  cases op <;> simp [binI] at h <;>
    first
    | (obtain ⟨r, hr, rfl⟩ := h; simpa [SCl.den, IE.den] using bits hr)
    | (subst h
       simp [binOp, Op.intArith, Op.intCmp, SCl.den, IE.wrapP_den hpc, IE.addS_den, IE.subS_den, IE.mulS_den, BE.eqS_den, BE.notS_den, BE.ltS_den, BE.leS_den, bne])
theorem place_run {off : Nat} {g : Field} {n : Nat} {id : Nat} (hs : sizeT P g.type = some n) (hn : n ≠ 0) (w : World) :
    (fieldPlace ⟨(α id).blk, off, none⟩ g).run P w = .ok ⟨(α id).blk, off + g.offset, none⟩ w := by
  simp only [fieldPlace, Sem.run_bind, sizeOf_run' hs, Result.andThen_ok, hn, if_false, Sem.run_pure, Addr.add_mid]
theorem placeL_run {b off : Nat} {g : Field} {n : Nat} (hs : sizeT P g.type = some n) (hn : n ≠ 0) (w : World) :
    (fieldPlace ⟨b, off, none⟩ g).run P w = .ok ⟨b, off + g.offset, none⟩ w := by
  simp only [fieldPlace, Sem.run_bind, sizeOf_run' hs, Result.andThen_ok, hn, if_false, Sem.run_pure, Addr.add_mid]
theorem placesM_run : ∀ {fs : List Field} {pl : List (Nat × Nat)}, placesL P fs = some pl → ∀ w : World,
    (fs.mapM (fun f => do pure (f.offset, ← sizeOf f.type) : Field → Sem (Nat × Nat))).run P w = .ok pl w
  | [], pl, h, w => by simp [placesL] at h; subst h; rfl
  | f :: fs, pl, h, w => by
    simp only [placesL] at h
    split at h
    · rename_i n r h1 h2
      cases h
      simp only [List.mapM_cons, Sem.run_bind, sizeOf_run' h1, Result.andThen_ok, Sem.run_pure, placesM_run h2 w]
    · cases h
theorem build_struct {t : TypeId} {fs : Array Field} {pl : List (Nat × Nat)} {z out : List SCl} {ps : List (Nat × SV)} (hz : zeroT P t = some (.agg z)) (hu : P.underlying t = some (.struct fs)) (hpl : placesL P fs.toList = some pl)
    (hf : fillS (fun i => pl[i]?) z ps = some out) (w : World) : (Instr.build t (ps.map fun p => (p.1, p.2.den ρ α)).toArray).run P w = .ok (.agg (dens ρ α out).toArray) w := by
  have hz' : (zeroValue t).run P w = .ok (.agg (dens ρ α z).toArray) w := zero_run (ρ := ρ) (α := α) hz w
  have hm := placesM_run hpl w
  have e : (fun i : Nat => pl.toArray[i]?) = (fun i : Nat => pl[i]?) := by funext i; simp
  have h2 := fillS_den (ρ := ρ) (α := α) hf
  simp only [Instr.build, Sem.run_bind, hz', Result.andThen_ok, Value.cells, run_underlying hu, Array.mapM_eq_mapM_toList, Sem.run_map, hm, e, h2, Sem.run_pure]
theorem build_array {t : TypeId} {n : Nat} {el : TypeId} {s : Nat} {z out : List SCl} {ps : List (Nat × SV)} (hz : zeroT P t = some (.agg z)) (hu : P.underlying t = some (.array n el)) (hs : sizeT P el = some s)
    (hf : fillS (fun i => some (i * s, s)) z ps = some out) (w : World) : (Instr.build t (ps.map fun p => (p.1, p.2.den ρ α)).toArray).run P w = .ok (.agg (dens ρ α out).toArray) w := by
  have hz' : (zeroValue t).run P w = .ok (.agg (dens ρ α z).toArray) w := zero_run (ρ := ρ) (α := α) hz w
  have h2 := fillS_den (ρ := ρ) (α := α) hf
  simp only [Instr.build, Sem.run_bind, hz', Result.andThen_ok, Value.cells, run_underlying hu, sizeOf_run' hs, h2, Sem.run_pure]
theorem hasL_spec {ls : List LD} {W : World} (hls : ∀ L ∈ ls, LOk ρ W L) {L : LD} (h : hasL ls L = true) : LOk ρ W L := by
  simp only [hasL, List.any_eq_true] at h
  obtain ⟨M, hm, e⟩ := h
  rw [← LD.same_eq e]
  exact hls M hm
theorem inL_spec {ls : List LD} {W : World} (hls : ∀ L ∈ ls, LOk ρ W L) {pc : PC} (hpc : pc.Ok ρ) {L : LD} {j : IE} (h : inL ls pc L j = true) : LOk ρ W L ∧ 0 ≤ j.den ρ ∧ j.den ρ < ρ.v L.n := by
  simp only [inL, Bool.and_eq_true] at h
  refine ⟨hasL_spec hls h.1, ?_, ?_⟩
  · have := PC.dec0_ok hpc _ (isT_eq h.2.1)
    exact of_decide_eq_true this
  · have := PC.dec0_ok hpc _ (isT_eq h.2.2)
    exact of_decide_eq_true this
theorem cellsFrom_get (L : LD) (j : IE) : ∀ (ks : List CK) (c k : Nat), (cellsFrom L j c ks)[k]? = (ks[k]?).map (CK.cell L j (c + k))
  | [], c, k => by simp [cellsFrom]
  | x :: r, c, 0 => by simp [cellsFrom]
  | x :: r, c, k + 1 => by simp only [cellsFrom, List.getElem?_cons_succ]; rw [cellsFrom_get L j r (c + 1) k]; congr 2; omega
theorem list_cells {W0 w : World} {L : LD} (hL : LOk ρ W0 L) (hb : Below W0.heap.size W0 w) {j : IE} (h0 : 0 ≤ j.den ρ) (h1 : j.den ρ < ρ.v L.n) {k : Nat} {v : Value} (hk : (dens ρ α (L.cells j))[k]? = some v) :
    w.cell? ⟨ρ.a L.i, ρ.o L.i + (j.den ρ).toNat * L.ks.length + k, none⟩ = some v := by
  simp only [dens, LD.cells, List.getElem?_map, cellsFrom_get, Nat.zero_add, Option.map_map] at hk
  rw [Option.map_eq_some_iff] at hk
  obtain ⟨x, hx, rfl⟩ := hk
  have ej : (((j.den ρ).toNat : Nat) : Int) = j.den ρ := Int.toNat_of_nonneg h0
  have hc := hL.cell (j.den ρ).toNat k x (by rw [ej]; exact h1) hx
  have hlt : ρ.a L.i < W0.heap.size := by
    unfold World.cell? at hc
    simp only at hc
    by_cases q : ρ.a L.i < W0.heap.size
    · exact q
    · rw [Array.getElem?_eq_none (by omega)] at hc; cases hc
  rw [hb.cell (p := ⟨ρ.a L.i, _, none⟩) hlt, hc]
  cases x <;> simp [CKat, CK.cell, SCl.den, BE.den, IE.den, ej]
theorem inN_spec {pc : PC} (hpc : pc.Ok ρ) {n j : IE} (h : inN pc n j = true) : 0 ≤ j.den ρ ∧ j.den ρ < n.den ρ := by
  simp only [inN, Bool.and_eq_true] at h
  refine ⟨?_, ?_⟩
  · have := PC.dec0_ok hpc _ (isT_eq h.1)
    exact of_decide_eq_true this
  · have := PC.dec0_ok hpc _ (isT_eq h.2)
    exact of_decide_eq_true this
theorem lst_some {w : World} {id : Nat} {b : LB} (hb : lstAt ρ α w id b) {j : IE} (h0 : 0 ≤ j.den ρ) (h1 : j.den ρ < b.n.den ρ) : (α id).isNil = false := by
  cases hq : (α id).isNil with
  | false => rfl
  | true => have := (hb.nil hq).1; omega
theorem lst_cells {w : World} {id : Nat} {b : LB} (hb : lstAt ρ α w id b) {pc : PC} (hpc : pc.Ok ρ) {j : IE} (h0 : 0 ≤ j.den ρ) (h1 : j.den ρ < b.n.den ρ) {cs : List SCl} (hl : b.look pc j = some cs) {k : Nat} {v : Value} (hk : (dens ρ α cs)[k]? = some v) :
    w.cell? ⟨(α id).blk, (j.den ρ).toNat * b.ks.length + k, none⟩ = some v := by
  obtain ⟨row, hrow, _, _, hcs, _⟩ := hb.row (lst_some hb h0 h1)
  have ej : (((j.den ρ).toNat : Nat) : Int) = j.den ρ := Int.toNat_of_nonneg h0
  have e := hcs (j.den ρ).toNat k v (by omega) (by rw [look_den (α := α) hpc hl ej.symm]; exact hk)
  unfold World.cell?
  simp only [hrow, Option.isSome_none, Bool.false_eq_true, if_false, List.getElem?_toArray]
  exact e
theorem bls_len {w : World} {id : Nat} {b : LB} (hb : lstAt ρ α w id b) : ∃ A c, (SCl.bls id b.n).den ρ α = .slice A (b.n.den ρ).toNat c := by
  simp only [SCl.den]
  split
  · rename_i q
    obtain ⟨h1, A, h2⟩ := hb.nil q
    rw [h1, h2]; exact ⟨_, _, rfl⟩
  · exact ⟨_, _, rfl⟩
theorem Bd_any {d d' : Nat} {o : Option Value} (h : Bd d o 0) (hd : d ≠ 0) : Bd d' o 0 ∧ o.isSome = true := by
  cases o with
  | none => exact absurd h.symm hd
  | some v => exact ⟨h, rfl⟩
theorem emp_run {A : Option Addr} {len cap : Nat} {lo hi mx : Option Value} {t el : TypeId} {s : Nat} {w : World} (hu : P.underlying t = some (.slice el)) (hs : sizeT P el = some s) (h1 : Bd 1 lo 0) (h2 : Bd 1 hi 0) (h3 : Bd 1 mx 0) :
    (Instr.slice t (.slice A len cap) lo hi mx).run P w = .ok (.slice A 0 0) w := by
  have hb := bnds_run (P := P) (w := w) (isS := true) (len := len) (cap := 0) (cap' := cap) (Bd_any h1 (by omega)).1 (Bd_any h2 (by omega)).1 (Bd_any h3 (by omega)).1 (Nat.le_refl _) (Nat.le_refl _) (Nat.le_refl _) (Nat.zero_le _) (.inl (Bd_any (d' := 0) h2 (by omega)).2)
  have hx := (Bd_any (d' := 0) h3 (by omega)).2
  rw [hx] at hb
  simp only [if_true] at hb
  simp only [Instr.slice, Sem.run_bind, run_underlying hu, Result.andThen_ok, hb, sizeOf_run' hs, Sem.run_pure]
  simp
theorem binS_run {op : BinOp} {t : TypeId} {a b : IE} {c : SCl} (h : binS op a b = some c) (x y : Operand) (w : World) :
    (do eqGuard op t x y (.string (strB (a.den ρ))) (.string (strB (b.den ρ))); binOp op t (.string (strB (a.den ρ))) (.string (strB (b.den ρ))) : Sem Value).run P w = .ok (c.den ρ α) w := by
  have hg : ∀ op, (eqGuard op t x y (.string (strB (a.den ρ))) (.string (strB (b.den ρ)))).run P w = .ok () w := by
    intro op
    cases op <;> simp [eqGuard]
  rw [Sem.run_bind, hg, Result.andThen_ok]
  have lt : ((IE.fxS 2 a b).den ρ == 1) = ltN (strN (a.den ρ)) (strN (b.den ρ)) := by
    rw [IE.fxS_den]
    simp only [fixF]
    cases ltN (strN (a.den ρ)) (strN (b.den ρ)) <;> rfl
  have lt1 : (BE.eqS (IE.fxS 2 a b) (.lit 1)).den ρ = ltN (strN (a.den ρ)) (strN (b.den ρ)) := by rw [BE.eqS_den]; exact lt
  cases op <;> simp only [binS, Option.some.injEq, reduceCtorEq] at h <;> subst h <;>
    simp only [SCl.den, BE.eqS_den, BE.notS_den, BE.andS_den, lt1, binOp, Op.stringOp, strB_beq, strB_less, Sem.run_pure]
  · cases ltN (strN (a.den ρ)) (strN (b.den ρ)) <;> cases (a.den ρ == b.den ρ) <;> rfl
  · cases ltN (strN (a.den ρ)) (strN (b.den ρ)) <;> cases (a.den ρ == b.den ρ) <;> rfl
theorem nl_run {t el : TypeId} {A : Addr} {n c : Nat} {w : World} (hd : P.underlying t = some (.slice el)) : (binOp .eql t (.slice (some A) n c) (.slice none 0 0)).run P w = .ok (.bool false) w ∧ (binOp .neq t (.slice (some A) n c) (.slice none 0 0)).run P w = .ok (.bool true) w := by
  have key : (Op.equal t (.slice (some A) n c) (.slice none 0 0)).run P w = .ok false w := by
    unfold Op.equal
    rw [show Op.maxDepth = 9999 + 1 from rfl]
    generalize 9999 = D
    simp [Op.equalIn, run_underlying hd]
  exact ⟨by simp [binOp, key], by simp [binOp, key]⟩
theorem op_sound {call : CallF} {W0 : World} (hcall : CallOk P ρ W0 call) {rd : Option Nat} {pc : PC} (hpc : pc.Ok ρ) {e : Operand → Option SV} {h : Vw} {n : Nat} {o : Oper} {r : Res}
    (hr : (opE P call pc e h n o).pick ρ = some r) {a : Act} {w : World} (he2 : ∀ x ∈ o.op.operands, ∀ s, e x = some s → a.eval x = s.den ρ α ∧ s.below n = true) (hlow : LowV n h) (hw0 : Below W0.heap.size W0 w)
    (hO : Obs ρ W0.heap.size α w (fun id => if id ∈ r.tch then h id else none)) : r.pc.Ok ρ ∧ Does P rd o a w (EffR ρ n α h w r) := by
  have he : ∀ x ∈ o.op.operands, ∀ s, e x = some s → a.eval x = s.den ρ α := fun x hx s hs => (he2 x hx s hs).1
  have hbe : ∀ x ∈ o.op.operands, ∀ s, e x = some s → ∀ m ∈ s.ids, m < n := fun x hx s hs => lowL_iff.1 (he2 x hx s hs).2
  have hat : ∀ id ∈ r.tch, ∀ o, h id = some o → obAt ρ α w id o := fun id hid o ho => hO.at_ id o (by simp only [hid, if_true]; exact ho)
  obtain ⟨dst, op, type, pos, after, guard⟩ := o
  have done : (∀ c, op ≠ .defer c) → ∀ {pc' : PC} {x : Option SV}, pc'.Ok ρ → (val n pc' x).pick ρ = some r → (∀ v, x = some v → (execOp a.eval ⟨dst, op, type, pos, after, guard⟩).run P w = .ok (.value (v.den ρ α)) w) →
      r.pc.Ok ρ ∧ Does P rd ⟨dst, op, type, pos, after, guard⟩ a w (EffR ρ n α h w r) := by
    intro hnd pc' x h1 h2 h3
    obtain ⟨v, hv, rfl⟩ := val_some h2
    exact ⟨h1, .value hnd (h3 v hv) EffR.val⟩
  cases op with
  | move x => exact done (fun _ hq => by cases hq) hpc hr fun v hv => by simp only [execOp]; rw [he x (by simp [Op.operands]) v hv]; rfl
  | assign x => exact done (fun _ hq => by cases hq) hpc hr fun v hv => by simp only [execOp]; rw [he x (by simp [Op.operands]) v hv]; rfl
  | pick c x y =>
    simp only [opE, oPick] at hr
    split at hr
    · rename_i b hb
      obtain ⟨pc', h1, h2⟩ := T.cond_some hpc hr
      refine done (fun _ hq => by cases hq) h1 h2 fun v hv => ?_
      have ec : a.eval c = .bool (b.den ρ) := he c (by simp [Op.operands]) _ hb
      simp only [execOp, ec, asBool, Sem.run_bind, Sem.run_pure, Result.andThen_ok]
      cases hq : b.den ρ
      · rw [hq] at hv; simp only [Bool.false_eq_true, if_false] at hv ⊢; rw [he y (by simp [Op.operands]) v hv]
      · rw [hq] at hv; simp only [if_true] at hv ⊢; rw [he x (by simp [Op.operands]) v hv]
    · exact (T.bad_some hr).elim
  | alloc t =>
    simp only [opE, oAlloc] at hr
    split at hr
    · rename_i z hz
      split at hr
      · rename_i cs hcs
        have := T.ret_some hr
        subst this
        refine ⟨hpc, .value (fun _ hq => by cases hq) (v := .pointer (some ⟨w.heap.size, 0, none⟩)) (w' := w.alloc (.cells (dens ρ α cs).toArray t)) ?_ ⟨setA α n ⟨w.heap.size, 0, .func 0, #[]⟩, by simp [SV.den, SCl.den, setA_same], eff_blk ?_⟩⟩
        · simp only [execOp]
          refine run_opv ?_
          simp only [Instr.alloc, Sem.run_bind, zero_run (ρ := ρ) (α := α) hz, Result.andThen_ok, newVar, newRow, cells_den ρ α hcs, run_newObj, Sem.run_pure, World.alloc]
        · rw [cells_ids hcs, zero_ids hz]; intro m hm; cases hm
      · exact (T.bad_some hr).elim
    · exact (T.bad_some hr).elim
  | box t x =>
    simp only [opE, oBox] at hr
    split at hr
    · rename_i z hz
      split at hr
      · rename_i cs hcs
        have := T.ret_some hr
        subst this
        refine ⟨hpc, .value (fun _ hq => by cases hq) (v := .pointer (some ⟨w.heap.size, 0, none⟩)) (w' := w.alloc (.cells (dens ρ α cs).toArray t)) ?_ ⟨setA α n ⟨w.heap.size, 0, .func 0, #[]⟩, by simp [SV.den, SCl.den, setA_same], eff_blk ?_⟩⟩
        · simp only [execOp]
          refine run_opv ?_
          rw [he x (by simp [Op.operands]) _ hz]
          simp only [Instr.box, Sem.run_bind, newVar, newRow, cells_den ρ α hcs, run_newObj, Result.andThen_ok, Sem.run_pure, World.alloc]
        · rw [cells_ids hcs]; exact hbe x (by simp [Op.operands]) _ hz
      · exact (T.bad_some hr).elim
    · exact (T.bad_some hr).elim
  | build t parts =>
    simp only [opE, oBuild] at hr
    have hparts : ∀ {ps}, evP e parts.toList = some ps → (parts.map fun (i, x) => (i, a.eval x)) = (ps.map fun p => (p.1, p.2.den ρ α)).toArray := by
      intro ps hps
      rw [← evP_den hps (fun x hx s hs => he x (by simp only [Op.operands]; simpa using hx) s hs)]
      apply Array.ext'
      simp
    split at hr
    · rename_i z ps fs hz hps hu
      split at hr
      · rename_i pl hpl
        refine done (fun _ hq => by cases hq) hpc hr fun v hv => ?_
        rw [Option.map_eq_some_iff] at hv
        obtain ⟨cs, hcs, rfl⟩ := hv
        simp only [execOp]
        refine run_opv ?_
        rw [hparts hps]
        exact build_struct hz hu hpl hcs w
      · exact (T.bad_some hr).elim
    · rename_i z ps n el hz hps hu
      split at hr
      · rename_i s hs
        refine done (fun _ hq => by cases hq) hpc hr fun v hv => ?_
        rw [Option.map_eq_some_iff] at hv
        obtain ⟨cs, hcs, rfl⟩ := hv
        simp only [execOp]
        refine run_opv ?_
        rw [hparts hps]
        exact build_array hz hu hs hcs w
      · exact (T.bad_some hr).elim
    · exact (T.bad_some hr).elim
  | load t x =>
    simp only [opE, oLoad] at hr
    split at hr
    · rename_i id off hx
      split at hr
      · rename_i b hb
        obtain ⟨v, hv, rfl⟩ := valT_some hr
        refine ⟨hpc, .value (fun _ hq => by cases hq) ?_ EffR.val⟩
        have hblk := hat id (List.mem_cons_self ..) _ hb
        simp only [execOp]
        refine run_opv ?_
        rw [he x (by simp [Op.operands]) _ hx]
        simp only [Instr.loadAt, Instr.sureAddr, SV.den, SCl.den, Sem.run_bind, Sem.run_pure, Result.andThen_ok]
        exact loadVar_run hblk hv
      · exact (T.bad_some hr).elim
    · rename_i L j c hx
      split at hr
      · rename_i hin
        obtain ⟨v, hv, rfl⟩ := valT_some hr
        refine ⟨hpc, .value (fun _ hq => by cases hq) ?_ EffR.val⟩
        obtain ⟨hL, h0, h1⟩ := inL_spec hcall.1 hpc hin
        simp only [execOp]
        refine run_opv ?_
        rw [he x (by simp [Op.operands]) _ hx]
        simp only [Instr.loadAt, Instr.sureAddr, SV.den, SCl.den, Sem.run_bind, Sem.run_pure, Result.andThen_ok]
        exact loadVar_cells (fun k v hk => list_cells hL hw0 h0 h1 hk) hv
      · exact (T.bad_some hr).elim
    · rename_i id z j c hx
      split at hr
      · rename_i b hb
        split at hr
        · rename_i hin
          rw [Bool.and_eq_true] at hin
          obtain ⟨hz, hin⟩ := hin
          have hz := Nat.eq_of_beq_eq_true hz
          obtain ⟨v, hv, rfl⟩ := valT_some hr
          refine ⟨hpc, .value (fun _ hq => by cases hq) ?_ EffR.val⟩
          have hblk : lstAt ρ α w id b := hat id (List.mem_cons_self ..) _ hb
          obtain ⟨h0, h1⟩ := inN_spec hpc hin
          simp only [execOp]
          refine run_opv ?_
          rw [he x (by simp [Op.operands]) _ hx]
          simp only [Instr.loadAt, Instr.sureAddr, SV.den, SCl.den, Sem.run_bind, Sem.run_pure, Result.andThen_ok]
          rw [hz]
          rw [Option.bind_eq_some_iff] at hv
          obtain ⟨cs, hlk, hv⟩ := hv
          exact loadVar_cells (fun k v hk => lst_cells hblk hpc h0 h1 hlk hk) hv
        · exact (T.bad_some hr).elim
      · exact (T.bad_some hr).elim
    · exact (T.bad_some hr).elim
  | store t x y =>
    simp only [opE, oStore] at hr
    split at hr
    · rename_i id off v m hx hy hn
      split at hr
      · rename_i b cs hb hcs
        split at hr
        · rename_i hc
          simp only [Bool.and_eq_true, Nat.ble_eq, Bool.not_eq_true'] at hc
          obtain ⟨⟨⟨hl, hle⟩, hro⟩, h1⟩ := hc
          have := T.ret_some hr
          subst this
          obtain ⟨tl, q1, q2, q3⟩ := hat id (List.mem_cons_self ..) _ hb
          refine ⟨hpc, .skip (fun _ hq => by cases hq) (w' := w.setRow (α id).blk (dens ρ α (putL b.cs off cs) ++ tl).toArray) ?_ ⟨α, rfl, eff_set hb hro q1 q2 q3 rfl⟩⟩
          simp only [execOp]
          refine run_opu ?_
          rw [he x (by simp [Op.operands]) _ hx, he y (by simp [Op.operands]) _ hy]
          simp only [Instr.storeAt, Instr.sureAddr, SV.den, SCl.den, Sem.run_bind, Sem.run_pure, Result.andThen_ok]
          exact storeVar_run q3 hcs hn (Nat.eq_of_beq_eq_true hl) hle h1
        · exact (T.bad_some hr).elim
      · exact (T.bad_some hr).elim
    · rename_i id z j c v m hx hy hn
      split at hr
      · rename_i b cs hb hcs
        split at hr
        · rename_i old hlook
          split at hr
          · rename_i hc
            simp only [Bool.and_eq_true, Nat.ble_eq] at hc
            obtain ⟨hz, hol, hin, hl, hle, hok, hul⟩ := hc
            have hz := Nat.eq_of_beq_eq_true hz
            have hol := Nat.eq_of_beq_eq_true hol
            have := T.ret_some hr
            subst this
            have hblk : lstAt ρ α w id b := hat id (List.mem_cons_self ..) _ hb
            obtain ⟨h0, h1⟩ := inN_spec hpc hin
            rw [hz] at hol hle
            obtain ⟨w', hrun, hU⟩ := lst_store (P := P) (n := n) hb hblk hpc h0 h1 hlook hol hcs hn (Nat.eq_of_beq_eq_true hl) hle hok hul
            refine ⟨hpc, .skip (fun _ hq => by cases hq) (w' := w') ?_ ⟨α, rfl, hU⟩⟩
            simp only [execOp]
            refine run_opu ?_
            rw [he x (by simp [Op.operands]) _ hx, he y (by simp [Op.operands]) _ hy]
            simp only [Instr.storeAt, Instr.sureAddr, SV.den, SCl.den, Sem.run_bind, Sem.run_pure, Result.andThen_ok]
            rw [hz]
            exact hrun
          · exact (T.bad_some hr).elim
        · exact (T.bad_some hr).elim
      · exact (T.bad_some hr).elim
    · exact (T.bad_some hr).elim
  | nilCheck x =>
    simp only [opE, oNil] at hr
    split at hr
    · rename_i id off hx
      refine done (fun _ hq => by cases hq) hpc hr fun v hv => ?_
      cases hv
      simp only [execOp, he x (by simp [Op.operands]) _ hx, SV.den, SCl.den]
      rfl
    · rename_i L j c hx
      refine done (fun _ hq => by cases hq) hpc hr fun v hv => ?_
      cases hv
      simp only [execOp, he x (by simp [Op.operands]) _ hx, SV.den, SCl.den]
      rfl
    · rename_i id z j c hx
      refine done (fun _ hq => by cases hq) hpc hr fun v hv => ?_
      cases hv
      simp only [execOp, he x (by simp [Op.operands]) _ hx, SV.den, SCl.den]
      rfl
    · exact (T.bad_some hr).elim
  | binOp op t x y ty =>
    simp only [opE, oBin] at hr
    split at hr
    · rename_i k i l j hx hy
      simp only [oInt] at hr
      have ex := he x (by simp [Op.operands]) _ hx
      have ey := he y (by simp [Op.operands]) _ hy
      simp only [SV.den, SCl.den] at ex ey
      split at hr
      · rename_i q hq
        refine done (fun _ hq => by cases hq) hpc hr fun v hv => ?_
        cases hv
        simp only [execOp, ex, ey]
        refine run_opv ?_
        have hg : ∀ op, (eqGuard op t x y (.int k (i.den ρ)) (.int l (j.den ρ))).run P w = .ok () w := by
          intro op
          cases op <;> simp [eqGuard]
        rw [Sem.run_bind, hg, Result.andThen_ok]
        unfold shL at hq
        split at hq
        · split at hq
          · cases hq
          · rename_i hneg
            split at hq <;> cases hq <;> simp [binOp, Op.shift, IE.den, hneg, SV.den, SCl.den]
        · cases hq
      split at hr
      · rename_i hk
        have hk' := same_kind hk
        subst hk'
        have hg : ∀ op, (eqGuard op t x y (.int k (i.den ρ)) (.int k (j.den ρ))).run P w = .ok () w := by
          intro op
          cases op <;> simp [eqGuard]
        have quo : j.den ρ ≠ 0 → (execOp a.eval ⟨dst, .binOp .quo t x y ty, type, pos, after, guard⟩).run P w = .ok (.value (.int k (k.wrap ((i.den ρ).tdiv (j.den ρ))))) w := by
          intro hj
          simp only [execOp, ex, ey]
          refine run_opv ?_
          rw [Sem.run_bind, hg, Result.andThen_ok]
          simp [binOp, Op.intDiv, hj]
        have rem : j.den ρ ≠ 0 → (execOp a.eval ⟨dst, .binOp .rem t x y ty, type, pos, after, guard⟩).run P w = .ok (.value (.int k ((i.den ρ).tmod (j.den ρ)))) w := by
          intro hj
          simp only [execOp, ex, ey]
          refine run_opv ?_
          rw [Sem.run_bind, hg, Result.andThen_ok]
          simp [binOp, Op.intDiv, hj]
        have plain : ∀ {v}, (binI pc op k i j).map SV.one = some v → (execOp a.eval ⟨dst, .binOp op t x y ty, type, pos, after, guard⟩).run P w = .ok (.value (v.den ρ α)) w := by
          intro v hv
          rw [Option.map_eq_some_iff] at hv
          obtain ⟨c, hc, rfl⟩ := hv
          simp only [execOp, ex, ey]
          exact run_opv (binI_run hpc hc x y w)
        split at hr
        · split at hr
          · split at hr
            · exact (T.bad_some hr).elim
            · rename_i n hn
              refine done (fun _ hq => by cases hq) hpc hr fun v hv => ?_
              cases hv
              rw [quo (by simpa [IE.den] using hn)]
              simp only [SV.den, SCl.den, IE.wrapP_den hpc, IE.bin_den ρ Int.tdiv IE.quo (fun _ _ => rfl)]
          · obtain ⟨pc', h1, h2⟩ := T.cond_some hpc hr
            split at h2
            · exact (T.bad_some h2).elim
            · rename_i hz
              refine done (fun _ hq => by cases hq) h1 h2 fun v hv => ?_
              cases hv
              rw [quo (by simpa [BE.eqS_den, IE.den] using hz)]
              simp only [SV.den, SCl.den, IE.wrapP_den h1, IE.den]
        · split at hr
          · split at hr
            · exact (T.bad_some hr).elim
            · rename_i n hn
              refine done (fun _ hq => by cases hq) hpc hr fun v hv => ?_
              cases hv
              rw [rem (by simpa [IE.den] using hn)]
              simp only [SV.den, SCl.den, IE.bin_den ρ Int.tmod IE.rem (fun _ _ => rfl)]
          · obtain ⟨pc', h1, h2⟩ := T.cond_some hpc hr
            split at h2
            · exact (T.bad_some h2).elim
            · rename_i hz
              refine done (fun _ hq => by cases hq) h1 h2 fun v hv => ?_
              cases hv
              rw [rem (by simpa [BE.eqS_den, IE.den] using hz)]
              simp only [SV.den, SCl.den, IE.den]
        · exact done (fun _ hq => by cases hq) hpc hr fun v hv => plain hv
      · exact (T.bad_some hr).elim
    · rename_i xs ys hx hy
      simp only [oAgg] at hr
      have ex : a.eval x = .agg (dens ρ α xs).toArray := he x (by simp [Op.operands]) _ hx
      have ey : a.eval y = .agg (dens ρ α ys).toArray := he y (by simp [Op.operands]) _ hy
      split at hr
      · rename_i ks hks hagg
        split at hr
        · rename_i hc
          simp only [Bool.and_eq_true, Bool.not_eq_true'] at hc
          obtain ⟨_, hgd⟩ := hc
          have key : ∀ {c : BE}, eqCells ks xs ys = some c → (Op.equal t (.agg (dens ρ α xs).toArray) (.agg (dens ρ α ys).toArray)).run P w = .ok (c.den ρ) w := by
            intro c hc
            have h1 := eqCells_den (ρ := ρ) (α := α) hc
            have h2 := eqFlat hks 10000 (by decide) _ _ _ h1 w
            simp only [winV, hagg] at h2
            exact h2
          have hg := run_eqGuard_agg (P := P) w op t x y (dens ρ α xs).toArray (dens ρ α ys).toArray hgd
          split at hr
          · refine done (fun _ hq => by cases hq) hpc hr fun v hv => ?_
            rw [Option.map_eq_some_iff] at hv
            obtain ⟨c, hc, rfl⟩ := hv
            simp only [execOp, ex, ey]
            refine run_opv ?_
            rw [Sem.run_bind, hg, Result.andThen_ok]
            simp only [binOp, Sem.run_bind, key hc, Result.andThen_ok, Sem.run_pure, SV.den, SCl.den]
          · refine done (fun _ hq => by cases hq) hpc hr fun v hv => ?_
            rw [Option.map_eq_some_iff] at hv
            obtain ⟨c, hc, rfl⟩ := hv
            simp only [execOp, ex, ey]
            refine run_opv ?_
            rw [Sem.run_bind, hg, Result.andThen_ok]
            simp only [binOp, Sem.run_bind, key hc, Result.andThen_ok, Sem.run_pure, SV.den, SCl.den, BE.notS_den]
          · exact (T.bad_some hr).elim
        · exact (T.bad_some hr).elim
      · exact (T.bad_some hr).elim
    · rename_i p q hx hy
      simp only [oBoo] at hr
      have ex : a.eval x = .bool (p.den ρ) := he x (by simp [Op.operands]) _ hx
      have ey : a.eval y = .bool (q.den ρ) := he y (by simp [Op.operands]) _ hy
      split at hr
      · rename_i hu
        have hg : ∀ op, (eqGuard op t x y (.bool (p.den ρ)) (.bool (q.den ρ))).run P w = .ok () w := by
          intro op
          cases op <;> simp [eqGuard]
        split at hr
        · split at hr
          · rename_i hs
            refine done (fun _ hq => by cases hq) hpc hr fun v hv => ?_
            cases hv
            simp only [execOp, ex, ey]
            refine run_opv ?_
            rw [Sem.run_bind, hg, Result.andThen_ok, run_eql_bool w t _ _ hu, BE.same_eq _ _ hs]
            simp [SV.den, SCl.den, BE.den]
          · obtain ⟨pc', h1, h2⟩ := T.cond_some hpc hr
            refine done (fun _ hq => by cases hq) h1 h2 fun v hv => ?_
            cases hv
            simp only [execOp, ex, ey]
            refine run_opv ?_
            rw [Sem.run_bind, hg, Result.andThen_ok, run_eql_bool w t _ _ hu]
            cases p.den ρ <;> simp [SV.den, SCl.den, BE.notS_den]
        · split at hr
          · rename_i hs
            refine done (fun _ hq => by cases hq) hpc hr fun v hv => ?_
            cases hv
            simp only [execOp, ex, ey]
            refine run_opv ?_
            rw [Sem.run_bind, hg, Result.andThen_ok, run_neq_bool w t _ _ hu, BE.same_eq _ _ hs]
            simp [SV.den, SCl.den, BE.den]
          · obtain ⟨pc', h1, h2⟩ := T.cond_some hpc hr
            refine done (fun _ hq => by cases hq) h1 h2 fun v hv => ?_
            cases hv
            simp only [execOp, ex, ey]
            refine run_opv ?_
            rw [Sem.run_bind, hg, Result.andThen_ok, run_neq_bool w t _ _ hu]
            cases p.den ρ <;> simp [SV.den, SCl.den, BE.notS_den]
        · exact (T.bad_some hr).elim
      · exact (T.bad_some hr).elim
    · rename_i p q hx hy
      simp only [oStr] at hr
      have ex : a.eval x = .string (strB (p.den ρ)) := he x (by simp [Op.operands]) _ hx
      have ey : a.eval y = .string (strB (q.den ρ)) := he y (by simp [Op.operands]) _ hy
      split at hr
      · refine done (fun _ hq => by cases hq) hpc hr fun v hv => ?_
        rw [Option.map_eq_some_iff] at hv
        obtain ⟨c, hc, rfl⟩ := hv
        simp only [execOp, ex, ey]
        exact run_opv (binS_run hc x y w)
      · exact (T.bad_some hr).elim
    · rename_i L hx hy
      have ey : a.eval y = .slice none 0 0 := he y (by simp [Op.operands]) _ hy
      simp only [oNl] at hr
      split at hr
      · rename_i el t0 hu hnl
        simp only [nlS] at hnl
        split at hnl
        · rename_i hc
          cases hnl
          rw [Bool.and_eq_true] at hc
          have hL := hasL_spec hcall.1 hc.1
          have h0 := PC.dec_ok hpc _ (isT_eq hc.2)
          rw [BE.ltS_den] at h0
          have h0 : 0 < ρ.v L.n := of_decide_eq_true h0
          have ev : a.eval x = .slice (some ⟨ρ.a L.i, ρ.o L.i, none⟩) (ρ.v L.n).toNat (ρ.c L.i) := by rw [he x (by simp [Op.operands]) _ hx]; simp only [SV.den, SCl.den, hL.pt h0]
          have hg : ∀ op, (eqGuard op t x y (a.eval x) (a.eval y)).run P w = .ok () w := by
            intro op
            rw [ev, ey]
            cases op <;> simp [eqGuard]
          rw [ev, ey] at hg
          split at hr
          · obtain ⟨v, hv, rfl⟩ := valT_some hr
            cases hv
            refine ⟨hpc, .value (fun _ hq => by cases hq) ?_ EffR.val⟩
            simp only [execOp, ev, ey]
            refine run_opv ?_
            rw [Sem.run_bind, hg, Result.andThen_ok]
            exact (nl_run hu).1
          · obtain ⟨v, hv, rfl⟩ := valT_some hr
            cases hv
            refine ⟨hpc, .value (fun _ hq => by cases hq) ?_ EffR.val⟩
            simp only [execOp, ev, ey]
            refine run_opv ?_
            rw [Sem.run_bind, hg, Result.andThen_ok]
            exact (nl_run hu).2
          · exact (T.bad_some hr).elim
        · cases hnl
      · exact (T.bad_some hr).elim
    · rename_i id len hx hy
      have ey : a.eval y = .slice none 0 0 := he y (by simp [Op.operands]) _ hy
      simp only [oNl] at hr
      split at hr
      · rename_i el t0 hu hnl
        simp only [nlS] at hnl
        split at hnl
        · rename_i b hb
          split at hnl
          · rename_i hc
            cases hnl
            rw [Bool.and_eq_true] at hc
            have hln := IE.same_eq _ _ hc.1
            subst hln
            have hin : id ∈ r.tch := by
              split at hr
              · obtain ⟨v, hv, rfl⟩ := valT_some hr; exact List.mem_singleton_self _
              · obtain ⟨v, hv, rfl⟩ := valT_some hr; exact List.mem_singleton_self _
              · exact (T.bad_some hr).elim
            have hblk : lstAt ρ α w id b := hat id hin _ hb
            have h0 := PC.dec_ok hpc _ (isT_eq hc.2)
            rw [BE.ltS_den] at h0
            have h0 : 0 < b.n.den ρ := of_decide_eq_true h0
            have hnil : (α id).isNil = false := lst_some hblk (j := .lit 0) (Int.le_refl 0) h0
            have ev : a.eval x = .slice (some ⟨(α id).blk, 0, none⟩) (b.n.den ρ).toNat (α id).ext := by rw [he x (by simp [Op.operands]) _ hx]; simp [SV.den, SCl.den, hnil]
            have hg : ∀ op, (eqGuard op t x y (a.eval x) (a.eval y)).run P w = .ok () w := by
              intro op
              rw [ev, ey]
              cases op <;> simp [eqGuard]
            rw [ev, ey] at hg
            split at hr
            · obtain ⟨v, hv, rfl⟩ := valT_some hr
              cases hv
              refine ⟨hpc, .value (fun _ hq => by cases hq) ?_ EffR.val⟩
              simp only [execOp, ev, ey]
              refine run_opv ?_
              rw [Sem.run_bind, hg, Result.andThen_ok]
              exact (nl_run hu).1
            · obtain ⟨v, hv, rfl⟩ := valT_some hr
              cases hv
              refine ⟨hpc, .value (fun _ hq => by cases hq) ?_ EffR.val⟩
              simp only [execOp, ev, ey]
              refine run_opv ?_
              rw [Sem.run_bind, hg, Result.andThen_ok]
              exact (nl_run hu).2
            · exact (T.bad_some hr).elim
          · cases hnl
        · cases hnl
      · exact (T.bad_some hr).elim
    · rename_i p q _ _ _ _ _ hx hy
      simp only [oNi] at hr
      have ex : a.eval x = p.den ρ α := he x (by simp [Op.operands]) _ hx
      have ey : a.eval y = q.den ρ α := he y (by simp [Op.operands]) _ hy
      split at hr
      · rename_i u v hu hv
        split at hr
        · rename_i hc
          simp only [Bool.and_eq_true] at hc
          obtain ⟨⟨h0, h1⟩, h2⟩ := hc
          obtain ⟨key, hg⟩ := nil_eq (ρ := ρ) (α := α) hu hv h0 h1 h2 x y w
          split at hr
          · refine done (fun _ hq => by cases hq) hpc hr fun v hv => ?_
            cases hv
            simp only [execOp, ex, ey]
            refine run_opv ?_
            rw [Sem.run_bind, hg, Result.andThen_ok]
            exact key.1
          · refine done (fun _ hq => by cases hq) hpc hr fun v hv => ?_
            cases hv
            simp only [execOp, ex, ey]
            refine run_opv ?_
            rw [Sem.run_bind, hg, Result.andThen_ok]
            exact key.2
          · exact (T.bad_some hr).elim
        · exact (T.bad_some hr).elim
      · exact (T.bad_some hr).elim
    · exact (T.bad_some hr).elim
  | unOp op t x =>
    simp only [opE, oUn] at hr
    split at hr
    · rename_i k b hx
      refine done (fun _ hq => by cases hq) hpc hr fun v hv => ?_
      cases hv
      simp only [execOp]
      refine run_opv ?_
      rw [he x (by simp [Op.operands]) _ hx]
      simp only [Op.unary, SV.den, SCl.den, Op.intArith, IE.wrapP_den hpc, IE.subS_den, IE.den]
      rfl
    · rename_i b hx
      refine done (fun _ hq => by cases hq) hpc hr fun v hv => ?_
      cases hv
      simp only [execOp]
      refine run_opv ?_
      rw [he x (by simp [Op.operands]) _ hx]
      simp only [Op.unary, SV.den, SCl.den, BE.notS_den]
      rfl
    · exact (T.bad_some hr).elim
  | convert s d x =>
    simp only [opE, oConv] at hr
    split at hr
    · rename_i sd k l i hs hd hx
      refine done (fun _ hq => by cases hq) hpc hr fun v hv => ?_
      cases hv
      simp only [execOp]
      refine run_opv ?_
      rw [he x (by simp [Op.operands]) _ hx]
      simp only [convert, Sem.run_bind, run_underlying hs, run_underlying hd, Result.andThen_ok, SV.den, SCl.den, IE.wrapP_den hpc]
      cases sd <;> rfl
    · exact (T.bad_some hr).elim
  | fieldAddr s x f =>
    simp only [opE, oFA] at hr
    split at hr
    · rename_i fs id off hu hx
      split at hr
      · rename_i g hg
        split at hr
        · rename_i n hn
          split at hr
          · exact (T.bad_some hr).elim
          · rename_i hz
            refine done (fun _ hq => by cases hq) hpc hr fun v hv => ?_
            cases hv
            simp only [execOp]
            refine run_opv ?_
            rw [he x (by simp [Op.operands]) _ hx]
            have hp := place_run (P := P) (α := α) (off := off) (id := id) hn (by simpa using hz) w
            simp only [Instr.fieldAt, Sem.run_bind, run_underlying hu, Result.andThen_ok, hg, Instr.sureAddr, SV.den, SCl.den, Sem.run_pure, hp]
        · exact (T.bad_some hr).elim
      · exact (T.bad_some hr).elim
    · rename_i fs L j c hu hx
      split at hr
      · rename_i g hg
        split at hr
        · rename_i n hn
          split at hr
          · exact (T.bad_some hr).elim
          · rename_i hz
            refine done (fun _ hq => by cases hq) hpc hr fun v hv => ?_
            cases hv
            simp only [execOp]
            refine run_opv ?_
            rw [he x (by simp [Op.operands]) _ hx]
            have hp := placeL_run (P := P) (b := ρ.a L.i) (off := ρ.o L.i + (j.den ρ).toNat * L.ks.length + c) hn (by simpa using hz) w
            simp only [Instr.fieldAt, Sem.run_bind, run_underlying hu, Result.andThen_ok, hg, Instr.sureAddr, SV.den, SCl.den, Sem.run_pure, hp]
            simp only [Nat.add_assoc]
        · exact (T.bad_some hr).elim
      · exact (T.bad_some hr).elim
    · rename_i fs id z j c hu hx
      split at hr
      · rename_i g hg
        split at hr
        · rename_i n hn
          split at hr
          · exact (T.bad_some hr).elim
          · rename_i hz0
            refine done (fun _ hq => by cases hq) hpc hr fun v hv => ?_
            cases hv
            simp only [execOp]
            refine run_opv ?_
            rw [he x (by simp [Op.operands]) _ hx]
            have hp := placeL_run (P := P) (b := (α id).blk) (off := (j.den ρ).toNat * z + c) hn (by simpa using hz0) w
            simp only [Instr.fieldAt, Sem.run_bind, run_underlying hu, Result.andThen_ok, hg, Instr.sureAddr, SV.den, SCl.den, Sem.run_pure, hp]
            simp only [Nat.add_assoc]
        · exact (T.bad_some hr).elim
      · exact (T.bad_some hr).elim
    · exact (T.bad_some hr).elim
  | field t x f =>
    simp only [opE, oFld] at hr
    split at hr
    · rename_i fs cs hu hx
      split at hr
      · rename_i g hg
        refine done (fun _ hq => by cases hq) hpc hr fun v hv => ?_
        simp only [execOp]
        refine run_opv ?_
        rw [he x (by simp [Op.operands]) _ hx]
        simp only [Instr.field, Sem.run_bind, run_underlying hu, Result.andThen_ok, hg, SV.den, asAgg, Sem.run_pure, partS_run hv]
      · exact (T.bad_some hr).elim
    · exact (T.bad_some hr).elim
  | indexAddr t x i =>
    simp only [opE, oIA] at hr
    split at hr
    · rename_i len el id off k m hu hx hi
      split at hr
      · rename_i s hs
        split at hr
        · rename_i hb
          simp only [Bool.and_eq_true, decide_eq_true_eq] at hb
          refine done (fun _ hq => by cases hq) hpc hr fun v hv => ?_
          cases hv
          simp only [execOp]
          refine run_opv ?_
          rw [he x (by simp [Op.operands]) _ hx, he i (by simp [Op.operands]) _ hi]
          simp only [Instr.indexAt, asIntOf, SV.den, SCl.den, IE.den, Sem.run_bind, Sem.run_pure, Result.andThen_ok, run_underlying hu, Instr.sureAddr, hb, and_self, if_true, sizeOf_run' hs, Addr.add_mid]
        · exact (T.bad_some hr).elim
      · exact (T.bad_some hr).elim
    · rename_i el id off len cap ex k m hu hx hi
      split at hr
      · rename_i s hs
        split at hr
        · rename_i hb
          simp only [Bool.and_eq_true, decide_eq_true_eq] at hb
          refine done (fun _ hq => by cases hq) hpc hr fun v hv => ?_
          cases hv
          simp only [execOp]
          refine run_opv ?_
          rw [he x (by simp [Op.operands]) _ hx, he i (by simp [Op.operands]) _ hi]
          simp only [Instr.indexAt, asIntOf, SV.den, SCl.den, IE.den, Sem.run_bind, Sem.run_pure, Result.andThen_ok, run_underlying hu, hb, and_self, if_true, sizeOf_run' hs, Addr.add_mid]
        · exact (T.bad_some hr).elim
      · exact (T.bad_some hr).elim
    · rename_i el L k m hu hx hi
      split at hr
      · rename_i s hs
        split at hr
        · rename_i hb
          simp only [Bool.and_eq_true] at hb
          obtain ⟨hsz, hin⟩ := hb
          have hsz := Nat.eq_of_beq_eq_true hsz
          obtain ⟨hL, h0, h1⟩ := inL_spec hcall.1 hpc hin
          refine done (fun _ hq => by cases hq) hpc hr fun v hv => ?_
          cases hv
          simp only [execOp]
          refine run_opv ?_
          rw [he x (by simp [Op.operands]) _ hx, he i (by simp [Op.operands]) _ hi]
          have hnil : ρ.p L.i = some ⟨ρ.a L.i, ρ.o L.i, none⟩ := hL.pt (by omega)
          have h2 : m.den ρ < (((ρ.v L.n).toNat : Nat) : Int) := by have := hL.nn; omega
          simp only [Instr.indexAt, asIntOf, SV.den, SCl.den, Sem.run_bind, Sem.run_pure, Result.andThen_ok, run_underlying hu, hnil, h0, h2, and_self, if_true, sizeOf_run' hs, Addr.add_mid, hsz, Nat.add_zero]
        · exact (T.bad_some hr).elim
      · exact (T.bad_some hr).elim
    · rename_i el id len k m hu hx hi
      split at hr
      · rename_i s b hs hb0
        split at hr
        · rename_i hb
          simp only [Bool.and_eq_true] at hb
          obtain ⟨hsz, hln, hin⟩ := hb
          have hsz := Nat.eq_of_beq_eq_true hsz
          have hln := IE.same_eq _ _ hln
          subst hln
          obtain ⟨h0, h1⟩ := inN_spec hpc hin
          obtain ⟨v, hv, rfl⟩ := valT_some hr
          cases hv
          have hblk : lstAt ρ α w id b := hat id (List.mem_cons_self ..) _ hb0
          have hnil := lst_some hblk h0 h1
          refine ⟨hpc, .value (fun _ hq => by cases hq) ?_ EffR.val⟩
          simp only [execOp]
          refine run_opv ?_
          rw [he x (by simp [Op.operands]) _ hx, he i (by simp [Op.operands]) _ hi]
          have h2 : m.den ρ < (((b.n.den ρ).toNat : Nat) : Int) := by have := hblk.nn; omega
          simp only [Instr.indexAt, asIntOf, SV.den, SCl.den, Sem.run_bind, Sem.run_pure, Result.andThen_ok, run_underlying hu, hnil, Bool.false_eq_true, if_false, h0, h2, and_self, if_true, sizeOf_run' hs, Addr.add_mid, Nat.add_zero, Nat.zero_add]
        · exact (T.bad_some hr).elim
      · exact (T.bad_some hr).elim
    · exact (T.bad_some hr).elim
  | index t x i =>
    simp only [opE, oIdx] at hr
    split at hr
    · rename_i len el cs k m hu hx hi
      split at hr
      · rename_i s hs
        split at hr
        · rename_i hb
          simp only [Bool.and_eq_true, decide_eq_true_eq] at hb
          refine done (fun _ hq => by cases hq) hpc hr fun v hv => ?_
          simp only [execOp]
          refine run_opv ?_
          rw [he x (by simp [Op.operands]) _ hx, he i (by simp [Op.operands]) _ hi]
          simp only [Instr.index, asIntOf, SV.den, SCl.den, IE.den, Sem.run_bind, Sem.run_pure, Result.andThen_ok, run_underlying hu, hb, and_self, if_true, sizeOf_run' hs, partS_run hv]
        · exact (T.bad_some hr).elim
      · exact (T.bad_some hr).elim
    · rename_i s k m hu hx hi
      split at hr
      · rename_i hm
        rw [Bool.and_eq_true] at hm
        have h0 := PC.dec_ok hpc _ (isT_eq hm.1)
        have h1 := PC.dec_ok hpc _ (isT_eq hm.2)
        rw [BE.leS_den] at h0
        rw [BE.ltS_den, IE.fxS_den] at h1
        have h0 : 0 ≤ m.den ρ := of_decide_eq_true h0
        have h1 : m.den ρ < ((strN (s.den ρ)).length : Nat) := of_decide_eq_true h1
        have hlt : (m.den ρ).toNat < (strN (s.den ρ)).length := by omega
        have hb : (strB (s.den ρ))[(m.den ρ).toNat]? = some (UInt8.ofNat ((strN (s.den ρ))[(m.den ρ).toNat])) := by
          have hsz : (m.den ρ).toNat < (strB (s.den ρ)).size := by rw [strB_size]; exact hlt
          rw [getElem?_pos (strB (s.den ρ)) _ hsz]
          congr 1
          show (((strN (s.den ρ)).map UInt8.ofNat).toArray)[(m.den ρ).toNat]'(by simpa using hlt) = _
          rw [List.getElem_toArray, List.getElem_map]
        have hb2 : (UInt8.ofNat ((strN (s.den ρ))[(m.den ρ).toNat])).toNat = (strN (s.den ρ))[(m.den ρ).toNat] := by
          have := strN_lt (s.den ρ) _ (List.getElem_mem hlt)
          rw [UInt8.toNat_ofNat']
          omega
        refine done (fun _ hq => by cases hq) hpc hr fun v hv => ?_
        cases hv
        simp only [execOp]
        refine run_opv ?_
        rw [he x (by simp [Op.operands]) _ hx, he i (by simp [Op.operands]) _ hi]
        simp only [Instr.index, asIntOf, SV.den, SCl.den, Sem.run_bind, Sem.run_pure, Result.andThen_ok, run_underlying hu, h0, if_true, hb, hb2, IE.fxS_den, fixF, List.getElem?_eq_getElem hlt, Option.getD_some]
      · exact (T.bad_some hr).elim
    · exact (T.bad_some hr).elim
  | extract x i =>
    simp only [opE, oExt] at hr
    split at hr
    · rename_i vs hx
      split at hr
      · rename_i s hs
        refine done (fun _ hq => by cases hq) hpc hr fun v hv => ?_
        simp only [execOp]
        refine run_opv ?_
        have ex : a.eval x = .tuple (vs.map (S1.den ρ α)).toArray := he x (by simp [Op.operands]) _ hx
        have e1 : (vs.map (S1.den ρ α)).toArray[i]? = some (s.den ρ α) := by simp [hs]
        rw [ex, s1_sv hv]
        simp only [Instr.extract, e1]
        rfl
      · exact (T.bad_some hr).elim
    · exact (T.bad_some hr).elim
  | makeFunc fn first caps =>
    simp only [opE, oMkF] at hr
    split at hr
    · rename_i g vs hfirst hvs
      obtain rfl : first = #[] := by apply Array.ext'; simpa using hfirst
      · split at hr
        · rename_i ss hss
          have := T.ret_some hr
          subst this
          have hcap : (caps.map a.eval) = (ss.map (S1.den ρ α)).toArray := by
            apply Array.ext'
            rw [s1L_den hss, Array.toList_map, evL_den hvs (fun x hx s hs => he x (by simp only [Op.operands]; simpa using hx) s hs)]
          have hcl : ∀ s ∈ ss, ∀ m ∈ idsL s.cs, m < n := s1L_low hss (evL_low hvs fun x hx s hs => hbe x (by simp only [Op.operands]; simpa using hx) s hs)
          refine ⟨hpc, .value (fun _ hq => by cases hq) (v := .func (.func g) #[] (ss.map (S1.den ρ α)).toArray) (w' := w) ?_ ⟨setA α n ⟨0, 0, .func g, (ss.map (S1.den ρ α)).toArray⟩, by simp [SV.den, SCl.den, setA_same], eff_new (Stays.refl _ _) ⟨by rw [setA_same], ?_⟩ (fun hq => by cases hq)⟩⟩
          · simp only [execOp]
            refine run_opv ?_
            rw [hcap]
            simp [Instr.makeFunc]
          · rw [setA_same]
            show (ss.map (S1.den ρ α)).toArray = _
            congr 1
            exact List.map_congr_left fun s hs => S1.den_ids fun m hm => (setA_other (n := n) (j := m) (by have := hcl s hs m hm; omega) _).symm
        · exact (T.bad_some hr).elim
    · exact (T.bad_some hr).elim
  | buildSlice t len parts =>
    simp only [opE, oBS] at hr
    split at hr
    · rename_i el ps hu hps
      split at hr
      · rename_i z by_ zs hel
        obtain ⟨ti, zv, hi, hsz, hby, hz0, hzero, hzc, hzl, hzok, hsT, hzi⟩ := elT_some (ρ := ρ) (α := α) hel
        split at hr
        · rename_i hle
          have hle := Nat.le_of_ble_eq_true hle
          split at hr
          · rename_i cs hcs
            have := T.ret_some hr
            subst this
            have hparts : (parts.map fun (i, x) => (i, a.eval x)) = (ps.map fun p => (p.1, p.2.den ρ α)).toArray := by
              rw [← evP_den hps (fun x hx s hs => he x (by simp only [Op.operands]; simpa using hx) s hs)]
              apply Array.ext'
              simp
            refine ⟨hpc, .value (fun _ hq => by cases hq) (v := .slice (some ⟨w.heap.size, 0, none⟩) len len) (w' := w.alloc (.cells (dens ρ α cs).toArray el)) ?_ ⟨setA α n ⟨w.heap.size, 0, .func 0, #[]⟩, by simp [SV.den, SCl.den, setA_same], eff_blk ?_⟩⟩
            · simp only [execOp]
              refine run_opv ?_
              rw [hparts]
              have hf := fillS_den (ρ := ρ) (α := α) hcs
              have hsm : ¬ (len * z > 2 ^ 24) := by omega
              have hz' : (zeroValue el).run P w = .ok zv w := by simp [zeroValue, typeInfo, hi, hzero]
              have hzl0 : 0 < zs.length := by omega
              have hr0 := zerosL_den (ρ := ρ) (α := α) hzl0 (len * z)
              by_cases h0 : len * z = 0
              · rw [h0] at hf
                simp only [zerosL, List.range_zero, List.map_nil] at hf
                have hs0 : ¬ (0 > 2 ^ 24) := by omega
                simp only [Instr.buildSlice, Sem.run_bind, run_underlying hu, Result.andThen_ok, sizeOf_run' hsT, h0, hs0, if_false, if_true, Sem.run_pure, map0, hf, newRow, run_newObj, World.alloc]
              · simp only [Instr.buildSlice, Sem.run_bind, run_underlying hu, Result.andThen_ok, sizeOf_run' hsT, hsm, if_false, h0, hz', hzc, Sem.run_pure, hr0, hf, newRow, run_newObj, World.alloc]
            · exact fillS_low hcs (by rw [zerosL_ids hzi]; intro m hm; cases hm) (evP_low hps fun x hx s hs => hbe x (by simp only [Op.operands]; simpa using hx) s hs)
          · exact (T.bad_some hr).elim
        · exact (T.bad_some hr).elim
      · exact (T.bad_some hr).elim
    · exact (T.bad_some hr).elim
  | makeSlice t l c =>
    simp only [opE, oMkS] at hr
    split at hr
    · rename_i el k1 len k2 cap hu hl hc
      split at hr
      · rename_i z by_ zs hel
        obtain ⟨ti, zv, hi, hsz, hby, hz0, hzero, hzc, hzl, hzok, hsT, hzi⟩ := elT_some (ρ := ρ) (α := α) hel
        split at hr
        · rename_i hc2
          simp only [Bool.and_eq_true, Nat.ble_eq, decide_eq_true_eq] at hc2
          obtain ⟨⟨⟨c1, c2⟩, c3⟩, c4⟩ := hc2
          have := T.ret_some hr
          subst this
          obtain ⟨len, rfl⟩ : ∃ m : Nat, len = m := ⟨len.toNat, by omega⟩
          obtain ⟨cap, rfl⟩ : ∃ m : Nat, cap = m := ⟨cap.toNat, by omega⟩
          simp only [Int.toNat_natCast] at c3 c4 ⊢
          refine ⟨hpc, .value (fun _ hq => by cases hq) (v := .slice (some ⟨w.heap.size, 0, none⟩) len cap) (w' := w.alloc (.cells (dens ρ α (zerosL zs (cap * z))).toArray el)) ?_ ⟨setA α n ⟨w.heap.size, 0, .func 0, #[]⟩, by simp [SV.den, SCl.den, setA_same], eff_blk (by rw [zerosL_ids hzi]; intro m hm; cases hm)⟩⟩
          simp only [execOp]
          refine run_opv ?_
          rw [he l (by simp [Op.operands]) _ hl, he c (by simp [Op.operands]) _ hc]
          have hw1 : IntKind.i64.wrap (len : Int) = len := by rw [IntKind.wrap_i64]; omega
          have hw2 : IntKind.i64.wrap (cap : Int) = cap := by rw [IntKind.wrap_i64]; omega
          have hb3 : ¬ ((2 : Int) ^ 48 < (by_ : Int) * (cap : Int)) := by rw [← Int.natCast_mul, Nat.mul_comm]; omega
          have hzl0 : 0 < zs.length := by omega
          have hr0 := zerosL_den (ρ := ρ) (α := α) hzl0 (cap * z)
          have hn1 : ¬ ((cap : Int) < 0) := by omega
          have hn2 : ¬ ((len : Int) < 0) := by omega
          have hn3 : ¬ ((cap : Int) < (len : Int)) := by omega
          have hz' : (zeroValue el).run P w = .ok zv w := by simp [zeroValue, typeInfo, hi, hzero]
          have hb4 : ¬ ((281474976710656 : Int) < (by_ : Int) * (cap : Int)) := by rw [← Int.natCast_mul, Nat.mul_comm]; omega
          by_cases h0 : cap * z = 0
          · rw [h0]
            simp [Instr.makeSlice, run_underlying hu, SV.den, SCl.den, IE.den, asInt, asIntOf, typeInfo, hi, hby, hw1, hw2, hn1, hn2, hn3, hb4, sizeOf_run' hsT, h0, newRow, zerosL, map0]
          · rw [← hr0]
            simp [Instr.makeSlice, run_underlying hu, SV.den, SCl.den, IE.den, asInt, asIntOf, typeInfo, hi, hby, hw1, hw2, hn1, hn2, hn3, hb4, sizeOf_run' hsT, h0, hz', hzc, newRow]
        · exact (T.bad_some hr).elim
      · exact (T.bad_some hr).elim
    · exact (T.bad_some hr).elim
  | slice t x lo hi mx =>
    simp only [opE, oSl] at hr
    have bd : ∀ {o : Option Operand} {d b : Nat}, (∀ y, o = some y → y ∈ (Op.slice t x lo hi mx).operands) → bndE e d o = some b → Bd d (o.map a.eval) b := by
      intro o d b ho hb
      unfold bndE at hb
      split at hb
      · cases hb; rfl
      · rename_i y
        split at hb
        · rename_i k m hy
          split at hb
          · rename_i hm
            cases hb
            exact ⟨k, (he y (ho y rfl) _ hy).trans (by simp [SV.den, SCl.den, IE.den, Int.toNat_of_nonneg hm])⟩
          · cases hb
        · cases hb
    have hlo : ∀ y, lo = some y → y ∈ (Op.slice t x lo hi mx).operands := fun y hy => by simp [Op.operands, hy]
    have hhi : ∀ y, hi = some y → y ∈ (Op.slice t x lo hi mx).operands := fun y hy => by simp [Op.operands, hy]
    have hmx : ∀ y, mx = some y → y ∈ (Op.slice t x lo hi mx).operands := fun y hy => by simp [Op.operands, hy]
    split at hr
    · rename_i el id off len cap ex hu hx
      split at hr
      · rename_i s l u m hs hl hu2 hm
        split at hr
        · rename_i hc
          simp only [Bool.and_eq_true, Nat.ble_eq, Bool.or_eq_true, Nat.blt_eq, Bool.not_eq_true'] at hc
          obtain ⟨⟨⟨⟨c1, c2⟩, c3⟩, c4⟩, c5⟩ := hc
          refine done (fun _ hq => by cases hq) hpc hr fun v hv => ?_
          cases hv
          simp only [execOp]
          refine run_opv ?_
          rw [he x (by simp [Op.operands]) _ hx]
          have hb := bnds_run (P := P) (w := w) (isS := true) (cap' := if ex = true then cap else cap + (α id).ext) (bd hlo hl) (bd hhi hu2) (bd hmx hm) c1 c2 c3 (by split <;> omega) (by simpa [Option.isSome_map] using c5)
          simp only [SV.den, SCl.den, Instr.sliceAt, Instr.slice, Sem.run_bind, run_underlying hu, Result.andThen_ok, hb, sizeOf_run' hs, Sem.run_pure, Option.map_some]
          refine slice_fin ?_
          rcases hq : mx with _ | y
          · subst hq
            have hmc : m = cap := by simpa [bndE] using hm.symm
            subst hmc
            cases ex with
            | true => exact .inl (by simp)
            | false =>
              simp only [Bool.false_eq_true, Option.isSome_none, or_false, false_or] at c4
              exact .inr ⟨by simp, by simp, c4⟩
          · subst hq
            exact .inl (by simp)
        · exact (T.bad_some hr).elim
      · exact (T.bad_some hr).elim
    · rename_i el hu hx
      split at hr
      · rename_i sz hsz hl hu2 hm
        split at hr
        · rename_i c5
          simp only [Bool.or_eq_true, Bool.not_eq_true'] at c5
          refine done (fun _ hq => by cases hq) hpc hr fun v hv => ?_
          cases hv
          simp only [execOp]
          refine run_opv ?_
          rw [he x (by simp [Op.operands]) _ hx]
          have hb := bnds_run (P := P) (w := w) (isS := true) (cap' := 0) (bd hlo hl) (bd hhi hu2) (bd hmx hm) (Nat.le_refl _) (Nat.le_refl _) (Nat.le_refl _) (Nat.le_refl _) (by simpa [Option.isSome_map] using c5)
          simp only [SV.den, SCl.den, Instr.sliceAt, Instr.slice, Sem.run_bind, run_underlying hu, Result.andThen_ok, hb, sizeOf_run' hsz, Sem.run_pure, Option.map_none, ite_self]
        · exact (T.bad_some hr).elim
      · exact (T.bad_some hr).elim
    · rename_i el L hu hx
      split at hr
      · rename_i sz hsz hl hu2 hm
        refine done (fun _ hq => by cases hq) hpc hr fun v hv => ?_
        cases hv
        simp only [execOp]
        refine run_opv ?_
        rw [he x (by simp [Op.operands]) _ hx]
        simp only [SV.den, SCl.den, Instr.sliceAt, Sem.run_bind, run_underlying hu, Result.andThen_ok]
        exact emp_run hu hsz (bd hlo hl) (bd hhi hu2) (bd hmx hm)
      · exact (T.bad_some hr).elim
    · rename_i el id len hu hx
      split at hr
      · rename_i sz b hsz hl hu2 hm hb
        split at hr
        · rename_i hln
          have hln := IE.same_eq _ _ hln
          subst hln
          obtain ⟨v, hv, rfl⟩ := valT_some hr
          cases hv
          have hblk : lstAt ρ α w id b := hat id (List.mem_cons_self ..) _ hb
          refine ⟨hpc, .value (fun _ hq => by cases hq) ?_ EffR.val⟩
          simp only [execOp]
          refine run_opv ?_
          rw [he x (by simp [Op.operands]) _ hx]
          simp only [SV.den, SCl.den, Instr.sliceAt, Sem.run_bind, run_underlying hu, Result.andThen_ok]
          cases hq : (α id).isNil with
          | true =>
            obtain ⟨_, A, hA⟩ := hblk.nil hq
            simp only [if_true, hA]
            exact emp_run hu hsz (bd hlo hl) (bd hhi hu2) (bd hmx hm)
          | false =>
            simp only [Bool.false_eq_true, if_false]
            exact emp_run hu hsz (bd hlo hl) (bd hhi hu2) (bd hmx hm)
        · exact (T.bad_some hr).elim
      · exact (T.bad_some hr).elim
    · rename_i at_ id off hu hx
      split at hr
      · rename_i len el hu3
        split at hr
        · rename_i s l u m hs hl hu2 hm
          split at hr
          · rename_i hc
            simp only [Bool.and_eq_true, Nat.ble_eq, Bool.or_eq_true, Bool.not_eq_true'] at hc
            obtain ⟨⟨⟨c1, c2⟩, c3⟩, c5⟩ := hc
            refine done (fun _ hq => by cases hq) hpc hr fun v hv => ?_
            cases hv
            simp only [execOp]
            refine run_opv ?_
            rw [he x (by simp [Op.operands]) _ hx]
            have hb := bnds_run (P := P) (w := w) (isS := false) (cap' := len) (bd hlo hl) (bd hhi hu2) (bd hmx hm) c1 c2 c3 (Nat.le_refl _) (by simpa [Option.isSome_map] using c5)
            simp only [SV.den, SCl.den, Instr.sliceAt, Instr.slice, Sem.run_bind, run_underlying hu, run_underlying hu3, asAddr, Result.andThen_ok, hb, sizeOf_run' hs, Sem.run_pure]
            have hM : (if (Option.map a.eval mx).isSome = true then m else len) = m := by
              cases mx with
              | none => simpa [bndE] using hm
              | some y => simp
            rw [hM]
            by_cases e : m = l
            · subst e; simp
            · simp [e, Addr.add_mid, show l.beq m = false from by cases hq : l.beq m with | false => rfl | true => exact absurd (Nat.eq_of_beq_eq_true hq).symm e]
          · exact (T.bad_some hr).elim
        · exact (T.bad_some hr).elim
      · exact (T.bad_some hr).elim
    · exact (T.bad_some hr).elim
  | call c =>
    obtain ⟨callee, args, argTypes⟩ := c
    simp only [opE, oCall] at hr
    split at hr
    · simp only [oLen] at hr
      split at hr
      · rename_i x t ts hargs htys
        have hx0 : x ∈ (Op.call ⟨.builtin .len, args, argTypes⟩).operands := by
          simp only [Op.operands, Call.operands]
          have : x ∈ args := by rw [← Array.mem_toList_iff, hargs]; simp
          simp [this]
        obtain rfl : args = #[x] := by apply Array.ext'; simpa using hargs
        obtain rfl : argTypes = (t :: ts).toArray := by apply Array.ext'; simpa using htys
        have run : ∀ {v : Value}, (Builtin.len_ (t :: ts).toArray type #[a.eval x]).run P w = .ok v w → (execOp a.eval ⟨dst, .call ⟨.builtin .len, #[x], (t :: ts).toArray⟩, type, pos, after, guard⟩).run P w = .ok (.value v) w := by
          intro v hv
          simp only [execOp, resolve, Sem.run_bind, Sem.run_pure, Result.andThen_ok, invoke, builtin]
          simp [hv]
        split at hr
        · rename_i el id off m cap ex hu hx
          refine done (fun _ hq => by cases hq) hpc hr fun v hv => ?_
          cases hv
          have ex := he x hx0 _ hx
          refine run ?_
          rw [ex]
          simp [Builtin.len_, run_underlying hu, goInt, SV.den, SCl.den, IE.den]
        · rename_i el L hu hx
          split at hr
          · rename_i hl
            refine done (fun _ hq => by cases hq) hpc hr fun v hv => ?_
            cases hv
            have ex := he x hx0 _ hx
            have hnn := (hasL_spec hcall.1 hl).nn
            refine run ?_
            rw [ex]
            have e : (((ρ.v L.n).toNat : Nat) : Int) = ρ.v L.n := Int.toNat_of_nonneg hnn
            simp [Builtin.len_, run_underlying hu, goInt, SV.den, SCl.den, IE.den, e]
          · exact (T.bad_some hr).elim
        · rename_i el hu hx
          refine done (fun _ hq => by cases hq) hpc hr fun v hv => ?_
          cases hv
          have ex := he x hx0 _ hx
          refine run ?_
          rw [ex]
          simp [Builtin.len_, run_underlying hu, goInt, SV.den, SCl.den, IE.den]
        · rename_i el id len hu hx
          split at hr
          · rename_i b hb
            split at hr
            · rename_i hln
              have hln := IE.same_eq _ _ hln
              subst hln
              obtain ⟨v, hv, rfl⟩ := valT_some hr
              cases hv
              have hblk : lstAt ρ α w id b := hat id (List.mem_cons_self ..) _ hb
              obtain ⟨A, c, e⟩ := bls_len hblk
              have ex : a.eval x = _ := he x hx0 _ hx
              simp only [SV.den] at ex
              rw [e] at ex
              refine ⟨hpc, .value (fun _ hq => by cases hq) (run ?_) EffR.val⟩
              rw [ex]
              have e2 : (((b.n.den ρ).toNat : Nat) : Int) = b.n.den ρ := Int.toNat_of_nonneg hblk.nn
              simp [Builtin.len_, run_underlying hu, goInt, SV.den, SCl.den, e2]
            · exact (T.bad_some hr).elim
          · exact (T.bad_some hr).elim
        · rename_i s hu hx
          refine done (fun _ hq => by cases hq) hpc hr fun v hv => ?_
          cases hv
          have ex := he x hx0 _ hx
          refine run ?_
          rw [ex]
          simp [Builtin.len_, run_underlying hu, goInt, SV.den, SCl.den, IE.fxS_den, fixF, strB_size]
        · rename_i m el v' hu hx
          refine done (fun _ hq => by cases hq) hpc hr fun v hv => ?_
          cases hv
          refine run ?_
          simp only [Builtin.len_, List.getElem?_toArray, List.getElem?_cons_zero, Sem.run_bind, run_underlying hu, Result.andThen_ok]
          cases a.eval x <;> rfl
        · exact (T.bad_some hr).elim
      · exact (T.bad_some hr).elim
    · simp only [oCap] at hr
      split at hr
      · rename_i x t ts hargs htys
        have hx0 : x ∈ (Op.call ⟨.builtin .cap, args, argTypes⟩).operands := by
          simp only [Op.operands, Call.operands]
          have : x ∈ args := by rw [← Array.mem_toList_iff, hargs]; simp
          simp [this]
        obtain rfl : args = #[x] := by apply Array.ext'; simpa using hargs
        obtain rfl : argTypes = (t :: ts).toArray := by apply Array.ext'; simpa using htys
        have run : ∀ {v : Value}, (Builtin.cap_ (t :: ts).toArray type #[a.eval x]).run P w = .ok v w → (execOp a.eval ⟨dst, .call ⟨.builtin .cap, #[x], (t :: ts).toArray⟩, type, pos, after, guard⟩).run P w = .ok (.value v) w := by
          intro v hv
          simp only [execOp, resolve, Sem.run_bind, Sem.run_pure, Result.andThen_ok, invoke, builtin]
          simp [hv]
        split at hr
        · rename_i el id off m cap hu hx
          refine done (fun _ hq => by cases hq) hpc hr fun v hv => ?_
          cases hv
          have ex := he x hx0 _ hx
          refine run ?_
          rw [ex]
          simp [Builtin.cap_, run_underlying hu, goInt, SV.den, SCl.den, IE.den]
        · rename_i el hu hx
          refine done (fun _ hq => by cases hq) hpc hr fun v hv => ?_
          cases hv
          have ex := he x hx0 _ hx
          refine run ?_
          rw [ex]
          simp [Builtin.cap_, run_underlying hu, goInt, SV.den, SCl.den, IE.den]
        · exact (T.bad_some hr).elim
      · exact (T.bad_some hr).elim
    · simp only [oMin] at hr
      split at hr
      · rename_i k i r hargs
        refine done (fun _ hq => by cases hq) hpc hr fun v hv => ?_
        have ha : (args.map a.eval).toList = .int k (i.den ρ) :: r.map (SV.den ρ α) := by
          rw [Array.toList_map, evL_den hargs (fun x hx s hs => he x (by simp only [Op.operands, Call.operands]; simpa using hx) s hs)]
          rfl
        simp only [execOp, resolve, Sem.run_bind, Sem.run_pure, Result.andThen_ok, invoke, builtin]
        have := mmS_run (ρ := ρ) (α := α) (P := P) (f := mnS) (g := fun x y => if y < x then y else x) Builtin.min2 (fun a b => IE.bin_den ρ _ _ (fun _ _ => rfl) a b) (fun _ _ _ _ => rfl) hv w
        simp only [Builtin.min_, ha, this, Result.andThen_ok]
      · exact (T.bad_some hr).elim
    · simp only [oMax] at hr
      split at hr
      · rename_i k i r hargs
        refine done (fun _ hq => by cases hq) hpc hr fun v hv => ?_
        have ha : (args.map a.eval).toList = .int k (i.den ρ) :: r.map (SV.den ρ α) := by
          rw [Array.toList_map, evL_den hargs (fun x hx s hs => he x (by simp only [Op.operands, Call.operands]; simpa using hx) s hs)]
          rfl
        simp only [execOp, resolve, Sem.run_bind, Sem.run_pure, Result.andThen_ok, invoke, builtin]
        have := mmS_run (ρ := ρ) (α := α) (P := P) (f := mxS) (g := fun x y => if y > x then y else x) Builtin.max2 (fun a b => IE.bin_den ρ _ _ (fun _ _ => rfl) a b) (fun _ _ _ _ => rfl) hv w
        simp only [Builtin.max_, ha, this, Result.andThen_ok]
      · exact (T.bad_some hr).elim
    · simp only [oApp] at hr
      split at hr
      · rename_i s x t t2 hargs htys
        obtain rfl : args = #[s, x] := by apply Array.ext'; simpa using hargs
        obtain rfl : argTypes = #[t, t2] := by apply Array.ext'; simpa using htys
        have hs0 : s ∈ (Op.call ⟨.builtin .append, #[s, x], #[t, t2]⟩).operands := by simp [Op.operands, Call.operands]
        have hx0 : x ∈ (Op.call ⟨.builtin .append, #[s, x], #[t, t2]⟩).operands := by simp [Op.operands, Call.operands]
        have fin : ∀ {sv xv : SCl}, e s = some (.one sv) → e x = some (.one xv) → (r.pc = pc ∧ ∃ v w', (Builtin.append_ #[t, t2] type #[sv.den ρ α, xv.den ρ α]).run P w = .ok v w' ∧ EffR ρ n α h w r v w') →
            r.pc.Ok ρ ∧ Does P rd ⟨dst, .call ⟨.builtin .append, #[s, x], #[t, t2]⟩, type, pos, after, guard⟩ a w (EffR ρ n α h w r) := by
          rintro sv xv hs hx ⟨hp, v, w', hv, hR⟩
          refine ⟨hp ▸ hpc, .value (fun _ hq => by cases hq) ?_ hR⟩
          simp only [execOp, resolve, Sem.run_bind, Sem.run_pure, Result.andThen_ok, invoke, builtin]
          have e1 : a.eval s = sv.den ρ α := he s hs0 _ hs
          have e2 : a.eval x = xv.den ρ α := he x hx0 _ hx
          simp [e1, e2, hv]
        split at hr
        · rename_i el el2 id len xv ht ht2 hs hx
          exact fin hs hx (appB_sound hpc hr ht ht2 hat hlow)
        · rename_i el el2 L xv ht ht2 hs hx
          exact fin hs hx (appC_sound hcall.1 hw0 hpc hr ht ht2 hat hlow _)
        · rename_i el el2 id xv ht ht2 hs hx
          split at hr
          · rename_i b hb
            refine fin hs hx ?_
            have ht0 : id ∈ r.tch := by
              unfold appC at hr
              split at hr
              · split at hr
                · have := T.ret_some hr; subst this; exact List.mem_append_left _ (List.mem_singleton_self _)
                · exact (T.bad_some hr).elim
              · exact (T.bad_some hr).elim
            have hblk : lstAt ρ α w id b := hat id ht0 _ hb
            simp only [SCl.den]
            cases hq : (α id).isNil with
            | true =>
              obtain ⟨_, A, hA⟩ := hblk.nil hq
              simp only [if_true, hA]
              exact appC_sound hcall.1 hw0 hpc hr ht ht2 hat hlow _
            | false =>
              simp only [Bool.false_eq_true, if_false]
              exact appC_sound hcall.1 hw0 hpc hr ht ht2 hat hlow _
          · exact (T.bad_some hr).elim
        · rename_i el el2 i1 o1 L ht ht2 hs hx
          refine fin hs hx ?_
          simp only [SCl.den, if_true]
          exact appC_sound hcall.1 hw0 hpc hr ht ht2 hat hlow _
        · rename_i el el2 i1 o1 id m ht ht2 hs hx
          refine fin hs hx ?_
          rw [show (SCl.slc i1 o1 0 0 true).den ρ α = .slice (some ⟨(α i1).blk, o1, none⟩) 0 0 from rfl]
          exact appC_sound hcall.1 hw0 hpc hr ht ht2 hat hlow _
        · rename_i el el2 L ht ht2 hs hx
          exact fin hs hx (appC_sound hcall.1 hw0 hpc hr ht ht2 hat hlow none)
        · rename_i el el2 id m ht ht2 hs hx
          exact fin hs hx (appC_sound hcall.1 hw0 hpc hr ht ht2 hat hlow none)
        · rename_i el el2 sv xv _ _ _ _ _ _ _ ht ht2 hs hx
          exact fin hs hx (appE_sound hr ht ht2 hat hlow)
        · rename_i el kn sv xv ht ht2 hs hx
          exact fin hs hx (appZ_sound hr ht ht2 hat hlow)
        · exact (T.bad_some hr).elim
      · exact (T.bad_some hr).elim
    · simp only [oCpy] at hr
      split at hr
      · rename_i s x t t2 hargs htys
        obtain rfl : args = #[s, x] := by apply Array.ext'; simpa using hargs
        obtain rfl : argTypes = #[t, t2] := by apply Array.ext'; simpa using htys
        have hs0 : s ∈ (Op.call ⟨.builtin .copy, #[s, x], #[t, t2]⟩).operands := by simp [Op.operands, Call.operands]
        have hx0 : x ∈ (Op.call ⟨.builtin .copy, #[s, x], #[t, t2]⟩).operands := by simp [Op.operands, Call.operands]
        split at hr
        · rename_i el id off len cap ex xv hu hs hx
          split at hr
          · rename_i z b hz hb
            split at hr
            · rename_i new m t1 hsrc
              split at hr
              · rename_i hc
                simp only [Bool.and_eq_true, Nat.ble_eq, Bool.not_eq_true'] at hc
                obtain ⟨⟨hle, hro⟩, hok⟩ := hc
                have := T.ret_some hr
                subst this
                obtain ⟨tl, q1, q2, q3⟩ := hat id (List.mem_cons_self ..) _ hb
                obtain ⟨hlen, hfirst, hnl⟩ := srcE_first (P := P) (ρ := ρ) (α := α) (w := w) hsrc (fun i hi => hat i (List.mem_cons_of_mem _ (List.mem_append_right _ hi)))
                have hmin : min m len ≤ m := Nat.min_le_left ..
                have hmz : min m len * z ≤ m * z := Nat.mul_le_mul_right _ hmin
                have hmz2 : min m len * z ≤ len * z := Nat.mul_le_mul_right _ (Nat.min_le_right ..)
                have hl2 : (new.take (min m len * z)).length = min m len * z := by rw [List.length_take]; omega
                have hone : ∀ v ∈ dens ρ α (new.take (min m len * z)), v.oneCell' = true := by
                  intro v hv
                  obtain ⟨c, hm, rfl⟩ := List.mem_map.1 hv
                  exact cellOk_one ρ α (List.all_eq_true.1 hok c (List.mem_of_mem_take hm))
                have hst := run_storeCells_at (P := P) (α id).blk off b.elem (dens ρ α (new.take (min m len * z))) 0 (dens ρ α b.cs ++ tl).toArray w q3 (by simp only [List.length_map, hl2]; simp; omega) hone
                have hpt := putL_tail (cs := dens ρ α b.cs) (tl := tl) (off := off) (vs := dens ρ α (new.take (min m len * z))) (by simp only [List.length_map, hl2]; omega)
                have e3 : putL (dens ρ α b.cs) off (dens ρ α (new.take (min m len * z))) = dens ρ α (putL b.cs off (new.take (min m len * z))) := by simp [putL, List.map_append, List.map_take, List.map_drop]
                simp only [Nat.add_zero] at hst
                rw [hpt, e3] at hst
                refine ⟨hpc, .value (fun _ hq => by cases hq) (v := .int .i64 (min m len : Nat)) (w' := w.setRow (α id).blk (dens ρ α (putL b.cs off (new.take (min m len * z))) ++ tl).toArray) ?_ ⟨α, rfl, eff_set hb hro q1 q2 q3 rfl⟩⟩
                simp only [execOp, resolve, Sem.run_bind, Sem.run_pure, Result.andThen_ok, invoke, builtin]
                have e1 := he s hs0 _ hs
                have e2 : a.eval x = xv.den ρ α := he x hx0 _ hx
                have hf := hfirst (min m len) hmin
                simp only [SV.den, SCl.den] at e1
                simp only [List.map_toArray, List.map_cons, List.map_nil, e1, e2, Builtin.copy_, List.getElem?_toArray, List.getElem?_cons_zero, List.getElem?_cons_succ, Sem.run_bind, run_underlying hu, Result.andThen_ok, hlen w, Sem.run_pure]
                have hmm : Nat.min m len = min m len := rfl
                rw [hmm]
                simp only [sizeOf_run' hz, Result.andThen_ok, hf, hst, goInt]
              · exact (T.bad_some hr).elim
            · exact (T.bad_some hr).elim
          · exact (T.bad_some hr).elim
        · exact (T.bad_some hr).elim
      · exact (T.bad_some hr).elim
    · simp only [oClr] at hr
      split at hr
      · rename_i s t hargs htys
        obtain rfl : args = #[s] := by apply Array.ext'; simpa using hargs
        obtain rfl : argTypes = #[t] := by apply Array.ext'; simpa using htys
        have hs0 : s ∈ (Op.call ⟨.builtin .clear, #[s], #[t]⟩).operands := by simp [Op.operands, Call.operands]
        split at hr
        · rename_i el id off len cap ex hu hs
          have e1 := he s hs0 _ hs
          simp only [SV.den, SCl.den] at e1
          split at hr
          · rename_i z by_ zs b hel hb
            obtain ⟨ti, zv, hi, hsz, hby, hz0, hzero, hzc, hzl, hzok, hsT, hzi⟩ := elT_some (ρ := ρ) (α := α) hel
            split at hr
            · rename_i hc
              simp only [Bool.and_eq_true, Nat.ble_eq, Bool.not_eq_true'] at hc
              obtain ⟨⟨hle, hro⟩, hl0⟩ := hc
              have hl0' : len ≠ 0 := by rintro rfl; cases hl0
              have := T.ret_some hr
              subst this
              obtain ⟨tl, q1, q2, q3⟩ := hat id (List.mem_cons_self ..) _ hb
              have hone : ∀ v ∈ dens ρ α (zerosL zs (len * z)), v.oneCell' = true := by
                intro v hv
                obtain ⟨c, hm, rfl⟩ := List.mem_map.1 hv
                obtain ⟨i, _, rfl⟩ := List.mem_map.1 hm
                have hlt : i % zs.length < zs.length := Nat.mod_lt _ (by omega)
                rw [List.getD_eq_getElem?_getD, List.getElem?_eq_getElem hlt]
                exact cellOk_one ρ α (List.all_eq_true.1 hzok _ (List.getElem_mem hlt))
              have hst := run_storeCells_at (P := P) (α id).blk off b.elem (dens ρ α (zerosL zs (len * z))) 0 (dens ρ α b.cs ++ tl).toArray w q3 (by simp only [List.length_map, zerosL_len]; simp; omega) hone
              have hpt := putL_tail (cs := dens ρ α b.cs) (tl := tl) (off := off) (vs := dens ρ α (zerosL zs (len * z))) (by simp only [List.length_map, zerosL_len]; omega)
              have e3 : putL (dens ρ α b.cs) off (dens ρ α (zerosL zs (len * z))) = dens ρ α (putL b.cs off (zerosL zs (len * z))) := by simp [putL, List.map_append, List.map_take, List.map_drop]
              simp only [Nat.add_zero] at hst
              rw [hpt, e3] at hst
              refine ⟨hpc, .value (fun _ hq => by cases hq) (v := .tuple #[]) (w' := w.setRow (α id).blk (dens ρ α (putL b.cs off (zerosL zs (len * z))) ++ tl).toArray) ?_ ⟨α, rfl, eff_set hb hro q1 q2 q3 rfl⟩⟩
              simp only [execOp, resolve, Sem.run_bind, Sem.run_pure, Result.andThen_ok, invoke, builtin]
              have hz' : (zeroValue el).run P w = .ok zv w := by simp [zeroValue, typeInfo, hi, hzero]
              have ez : Builtin.zeroCells zv.cells len = (dens ρ α (zerosL zs (len * z))).toArray := by rw [hzc, zeroCells_den (by omega), hzl]
              obtain ⟨len, rfl⟩ : ∃ k, len = k + 1 := ⟨len - 1, by omega⟩
              simp only [List.map_toArray, List.map_cons, List.map_nil, e1, Builtin.clear_, List.getElem?_toArray, List.getElem?_cons_zero, Sem.run_bind, run_underlying hu, Result.andThen_ok, hz', ez, hst, Sem.run_pure]
            · split at hr
              · rename_i hl0
                have hl0 := Nat.eq_of_beq_eq_true hl0
                subst hl0
                refine done (fun _ hq => by cases hq) hpc hr fun v hv => ?_
                cases hv
                simp only [execOp, resolve, Sem.run_bind, Sem.run_pure, Result.andThen_ok, invoke, builtin]
                simp only [List.map_toArray, List.map_cons, List.map_nil, e1, Builtin.clear_, List.getElem?_toArray, List.getElem?_cons_zero, Sem.run_bind, run_underlying hu, Result.andThen_ok, Sem.run_pure]
                rfl
              · exact (T.bad_some hr).elim
          · exact (T.bad_some hr).elim
        · exact (T.bad_some hr).elim
      · exact (T.bad_some hr).elim
    · rename_i f
      simp only [oVal] at hr
      split at hr
      · rename_i fv args' hf hargs
        split at hr
        · rename_i tg caps t0 htg
          split at hr
          · rename_i hcb
            split at hr
            · rename_i bmask ids hreach
              split at hr
              · rename_i hc
                have hc1 := hc
                obtain ⟨⟨v, d, n', pc'⟩, h1, h2⟩ := T.bind_some hr
                have := T.ret_some h2
                subst this
                have hok := hcall.2 tg _ _ n pc v d n' pc' hpc h1
                have hids := lowL_iff.1 hc1
                have hf0 : f ∈ (Op.call ⟨.value f, args, argTypes⟩).operands := by simp [Op.operands, Call.operands]
                have hargs0 : ∀ x ∈ args.toList, ∀ s, e x = some s → a.eval x = s.den ρ α := fun x hx s hs => he x (by simp only [Op.operands, Call.operands]; simp; exact .inr (by simpa using hx)) s hs
                have hsub : ∀ m, m ∈ t0 ++ (args' ++ caps).flatMap SV.ids → m ∈ ids := fun m hm => reach_sub hreach (fun j hj => by simp at hj) m (.inl hm)
                have hlowargs : ∀ s ∈ args' ++ caps, s.below n = true := fun s hs => lowL_iff.2 fun m hm => hids m (hsub m (List.mem_append_right _ (List.mem_flatMap.2 ⟨s, hs, hm⟩)))
                have hview : ∀ id, hv (pickL h ids) id = if id ∈ ids then h id else none := fun id => pickL_get h id ids
                have hlv : LowV n (hv (pickL h ids)) := fun id o ho => by
                  rw [hview] at ho
                  split at ho
                  · exact hlow id o ho
                  · cases ho
                have hOv : Obs ρ W0.heap.size α w (hv (pickL h ids)) := by
                  have : hv (pickL h ids) = fun id => if id ∈ ids then h id else none := funext hview
                  rw [this]; exact hO
                have hmore : ∀ {α' : Nat → Pl} {w' : World}, Upd (Rg n n') ρ α α' (hv (pickL h ids)) w w' d → Upd (Rg n n') ρ α α' h w w' d := fun U => U.more fun i o _ ho => by
                  rw [hview] at ho
                  split at ho
                  · exact ho
                  · cases ho
                have ha : args.map a.eval = (args'.map (SV.den ρ α)).toArray := by
                  apply Array.ext'
                  rw [Array.toList_map, evL_den hargs hargs0]
                have hin : Tg.in (hv (pickL h ids)) tg := tgt_in htg fun id hid => by rw [hview, if_pos (hsub id (List.mem_append_left _ hid))]
                have hres := hok.2 hin hlowargs hlv α w hw0 hOv
                have ef : a.eval f = fv.den ρ α := he f hf0 _ hf
                rcases tgt_den (ρ := ρ) (α := α) (w := w) htg (fun id hid o ho => hat id (hsub id (List.mem_append_left _ hid)) o ho) with ⟨g, rfl, hden⟩ | ⟨id, y, rfl, rfl, hden, hy⟩
                · refine ⟨hok.1, .enter (fun _ hq => by cases hq) (f := g) (args := ((args' ++ caps).map (SV.den ρ α)).toArray) ?_ ?_⟩
                  · have hcb' : callable P g = true := hcb
                    simp only [execOp, resolve, Deferred.ofValue, ef, hden, Sem.run_bind, Sem.run_pure, Result.andThen_ok, invoke, ha]
                    have := callable_run (P := P) hcb' (#[] ++ (args'.map (SV.den ρ α)).toArray ++ (caps.map (SV.den ρ α)).toArray) w
                    rw [this]
                    simp
                  · refine (hres hcb).mono ?_
                    rintro e w' ⟨α', rfl, U⟩
                    exact ⟨_, rfl, α', rfl, hmore U⟩
                · have hyl := hat id (hsub id (List.mem_append_left _ (by rw [tgt_t0 htg]; exact List.mem_singleton_self _))) _ hy
                  obtain ⟨fn, tmps, hrun, hround⟩ := hres h hy hyl
                  rw [List.append_nil] at hrun
                  refine ⟨hok.1, .round (fun _ hq => by cases hq) ?_ (hround.mono ?_)⟩
                  · simp only [execOp, resolve, Deferred.ofValue, ef, hden, Sem.run_bind, Sem.run_pure, Result.andThen_ok, invoke, ha]
                    simpa using hrun
                  · rintro e w' ⟨α', rfl, U⟩
                    exact ⟨_, rfl, α', rfl, hmore U⟩
              · exact (T.bad_some hr).elim
            · exact (T.bad_some hr).elim
          · exact (T.bad_some hr).elim
        · exact (T.bad_some hr).elim
      · exact (T.bad_some hr).elim
    · exact (T.bad_some hr).elim
  | _ => exact (T.bad_some (by simpa only [opE] using hr)).elim
end
end Go.Proofs.Ytmpadjlplgajcaa
